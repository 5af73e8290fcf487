"""How machines of sayings read documents that are kept: their states without those that no good one follows.

In these machines each name stands at one node. So a state that can still become good tells which names have
been found on the way to it, and of two states the later one tells which names stand between them.

A reading has begun(label), the (lay, state) in which a node of this label begins, or the top if it is None;
step(state, by), None where nothing good follows; names_of(state), the set of the names found, told as a lay.
"""

from everymatch.basics import MARKS

# In a pair of states of two documents: the node is not in this document; nothing good follows in this one.
ABSENT = -1
LOST = -2


class Reading:
    """How the machine of a saying reads one document."""

    def __init__(self, machine):
        names, begin, top, step, good = machine
        self.names = len(names)
        self.nodes = _closed(sorted({state for row in begin for state in row}), step)
        hopeful = _hopeful(step, self.nodes, good)
        self.tops = [state for state in sorted(hopeful) if state not in self.nodes]
        self.nodes = [state for state in self.nodes if state in hopeful]
        self.ends = {state: 1 for state in self.tops if state in good}
        self._begun = {None: [(0, top)] if top in hopeful else []}
        for mark, row in zip(MARKS, begin):
            self._begun[mark] = [(lay, state) for lay, state in enumerate(row) if state in hopeful]
        self._steps = [_hopeful_steps(row, self.nodes, hopeful) for row in step]
        self._found = self._names_found()

    def _names_found(self):
        """The dict of the names that have been found, told as a lay, by states."""
        found = {}
        for begun in self._begun.values():
            for lay, state in begun:
                found[state] = lay
        before = 0
        while before < len(found):
            before = len(found)
            for state in list(found):
                for by, after in self._steps[state].items():
                    if by in found:
                        found[after] = found[state] | found[by]
        return found

    def begun(self, label):
        """The list of (lay, state) in which a node of this mark begins, or the top."""
        return self._begun[label]

    def starts(self, label):
        """The list of the states from which a row below this mark, or the top's row, may go on."""
        return self.tops if label is None else self.nodes

    def step(self, state, by):
        """The state to which one steps by another one, None if nothing good follows."""
        return self._steps[state].get(by)

    def names_of(self, state):
        """The set of the names found on the way to the state, told as a lay."""
        return self._found[state]


def _closed(states, step):
    """The list of these states and all to which they step by one another."""
    known = {state: True for state in states}
    at = 0
    while at < len(states):
        for place in range(at + 1):
            for after in (step[states[at]][states[place]], step[states[place]][states[at]]):
                if after not in known:
                    known[after] = True
                    states.append(after)
        at += 1
    return states


def _hopeful(step, nodes, good):
    """The dict, as a set, of the states that a good one can follow: by steps of theirs, or by theirs of others."""
    hopeful = {state: True for state in good}
    before = -1
    while before < len(hopeful):
        before = len(hopeful)
        for state, row in enumerate(step):
            for by in nodes:
                if row[by] in hopeful:
                    hopeful[state] = True
                    hopeful[by] = True
    return hopeful


def _hopeful_steps(row, nodes, hopeful):
    """The dict of the steps by nodes' states that a good state can follow."""
    return {by: row[by] for by in nodes if row[by] in hopeful}


class ReadingOfBoth:
    """How the machine of a saying reads two documents laid over one another, a name at one row of both.

    A label is a pair of marks, None where the node is not in the document; states are pairs, too. Where a name
    has been found in one document alone, nothing good follows in the other one.
    """

    def __init__(self, reading):
        self.names = reading.names
        self._one = reading
        self._known = {}

    def begun(self, label):
        """The list of (lay, state) in which a row of this label begins, or the top."""
        if label is None:
            return [(lay, (state, state)) for lay, state in self._one.begun(None)]
        first = self._lays(label[0])
        second = self._lays(label[1])
        found = []
        for lay in range(1 << self.names):
            state = self._seen((first.get(lay, first[None]), second.get(lay, second[None])), lay)
            if state is not None:
                found.append((lay, state))
        return found

    def _lays(self, mark):
        """The dict of the states in which a node begins by lays, and by None the one for all other lays."""
        if mark is None:
            return {None: ABSENT}
        lays = {None: LOST}
        for lay, state in self._one.begun(mark):
            lays[lay] = state
        return lays

    def step(self, state, by):
        """The pair to which one steps by another one, None if nothing good follows in either document."""
        key = (state, by)
        if key not in self._known:
            self._known[key] = self._stepped(state, by)
        return self._known[key]

    def _stepped(self, state, by):
        """The same when it comes for the first time."""
        names = self.names_of(state)
        more = self.names_of(by)
        # No document may tell that a name stands twice: it can stand once in each.
        if names & more:
            return None
        return self._seen((self._stepped_in(state[0], by[0]), self._stepped_in(state[1], by[1])), names | more)

    def _stepped_in(self, state, by):
        """The step in one document."""
        if state == LOST or by == ABSENT:
            return state
        after = None if by == LOST else self._one.step(state, by)
        return LOST if after is None else after

    def _seen(self, state, names):
        """The pair when these names have been found, None if nothing good follows in either document."""
        first, second = [self._seen_in(one, names) for one in state]
        if first < 0 and second < 0 and (names or ABSENT not in (first, second)):
            return None
        return (first, second)

    def _seen_in(self, state, names):
        """The state in one document, lost if some of the names have not been found there."""
        return LOST if state >= 0 and self._one.names_of(state) != names else state

    def names_of(self, state):
        """The set of the names found on the way to the pair, told as a lay."""
        for one in state:
            if one >= 0:
                return self._one.names_of(one)
        return 0

    def ends_of(self, states, elder):
        """The dict, of the top's states, of those that are good in one document alone: the elder or the newer."""
        found = {}
        for state in states:
            first, second = [one in self._one.ends for one in state]
            if first != second and first == elder:
                found[state] = 1
        return found
