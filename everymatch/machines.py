"""Machines that read documents: what they tell, what is made of them, and the machine of a saying."""

from everymatch.basics import MARKS
from everymatch.basics import MOST_NAMES
from everymatch.basics import ascends
from everymatch.basics import is_name
from everymatch.basics import is_number
from everymatch.basics import rows_in
from everymatch.documents import check_document
from everymatch.documents import check_nodes
from everymatch.errors import BadLaying
from everymatch.errors import BadMachine
from everymatch.errors import BadMachines
from everymatch.errors import BadName
from everymatch.errors import BadNames
from everymatch.errors import TooMany
from everymatch.reduction import reduced
from everymatch.relations import relation_begin
from everymatch.relations import relation_step
from everymatch.relations import relation_top
from everymatch.sayings import check_saying
from everymatch.sayings import free_in
from everymatch.sayings import sayings_within

MOST_STATES = 300
# So many of tops' states and so many of nodes': where more are come to, it is more than 600 of both together.
MOST_COME_TO = 600


def is_machine(thing):
    """Whether it is a machine."""
    if not isinstance(thing, tuple) or len(thing) != 5:
        return False
    names, begin, top, step, good = thing
    if not _are_names(names) or not _are_steps(step):
        return False
    many = len(step)
    return _are_beginnings(begin, 1 << len(names), many) and _is_state(top, many) and _are_good(good, many)


def check_machine(thing):
    """Raise BadMachine if it is no machine."""
    if not is_machine(thing):
        raise BadMachine("this is no machine")


def _are_names(thing):
    """Whether it is an ascending tuple of none to five names."""
    if not isinstance(thing, tuple) or len(thing) > MOST_NAMES:
        return False
    return all([is_name(name) for name in thing]) and ascends(thing)


def _is_state(thing, many):
    """Whether it is one of so many states."""
    return is_number(thing) and thing < many


def _are_states(thing, length, many):
    """Whether it is a tuple of this length of so many states."""
    return isinstance(thing, tuple) and len(thing) == length and all([_is_state(state, many) for state in thing])


def _are_steps(thing):
    """Whether it tells a state for each pair of states."""
    if not isinstance(thing, tuple) or len(thing) == 0 or len(thing) > MOST_STATES:
        return False
    return all([_are_states(row, len(thing), len(thing)) for row in thing])


def _are_beginnings(thing, lays, many):
    """Whether it tells one of so many states for each mark and each of so many lays."""
    if not isinstance(thing, tuple) or len(thing) != len(MARKS):
        return False
    return all([_are_states(row, lays, many) for row in thing])


def _are_good(thing, many):
    """Whether it is an ascending tuple of some of so many states."""
    return isinstance(thing, tuple) and _are_states(thing, len(thing), many) and ascends(thing)


def state_of(machine, document, laying):
    """The document's state."""
    _check_laid(machine, document, laying)
    return _run(machine, document, laying)[1]


def states_of(machine, document, laying):
    """The tuple of the states of the document's nodes."""
    _check_laid(machine, document, laying)
    return _run(machine, document, laying)[0]


def lets(machine, document, laying):
    """Whether the document's state is good."""
    _check_laid(machine, document, laying)
    return _run(machine, document, laying)[1] in machine[4]


def takes(machine, document, nodes):
    """Whether the machine lets the laying in which each name stands at its node of the tuple alone."""
    check_machine(machine)
    check_document(document)
    check_nodes(document, nodes, len(machine[0]))
    laying = [0] * len(document)
    for at, node in enumerate(nodes):
        laying[node] += 1 << at
    return _run(machine, document, laying)[1] in machine[4]


def _check_laid(machine, document, laying):
    """Raise the error of the first one of the three that is not right."""
    check_machine(machine)
    check_document(document)
    if not _are_states(laying, len(document), 1 << len(machine[0])):
        raise BadLaying("this is no laying of the document")


def _run(machine, document, laying):
    """(the tuple of the nodes' states, the document's state)."""
    begin, top, step = machine[1:4]
    rows = rows_in(document)
    states = [0] * len(document)
    # From the last node on: the states of its children are told ahead of its own.
    for node in reversed(range(len(document))):
        state = begin[MARKS.index(document[node][0])][laying[node]]
        for child in rows[node]:
            state = step[state][states[child]]
        states[node] = state
    for child in rows[None]:
        top = step[top][states[child]]
    return (tuple(states), top)


def least(machine):
    """The least machine that lets the same."""
    check_machine(machine)
    good = machine[4]
    return _least(machine[0], machine[1], machine[2], _step_of(machine), lambda state: state in good)


def size(machine):
    """How many states the least machine that lets the same has."""
    check_machine(machine)
    good = machine[4]
    made = reduced(machine[1], machine[2], _step_of(machine), lambda state: state in good, MOST_COME_TO)
    return len(made[2])


def _least(names, begin, top, step, is_good):
    """The least machine of what is told by keys of states, as reduced takes it."""
    made = reduced(begin, top, step, is_good, MOST_COME_TO)
    if len(made[2]) > MOST_STATES:
        raise TooMany("the least machine has more than 300 states")
    return (names, *made)


def _step_of(machine):
    """The function that steps a state of the machine by another one."""
    step = machine[3]
    return lambda state, by: step[state][by]


def opposite(machine):
    """The least machine that lets what the machine does not let."""
    check_machine(machine)
    good = machine[4]
    return _least(machine[0], machine[1], machine[2], _step_of(machine), lambda state: state not in good)


def joined_both(machine, other):
    """The least machine that lets what both machines let."""
    _check_two(machine, other)
    return _joined_both(machine, other)


def joined_either(machine, other):
    """The least machine that lets what at least one of both machines lets."""
    _check_two(machine, other)
    return _joined_either(machine, other)


def _check_two(machine, other):
    """Raise the error of what is no machine, or of machines whose names are not the same."""
    check_machine(machine)
    check_machine(other)
    if machine[0] != other[0]:
        raise BadMachines("the machines' names are not the same")


def _joined_both(machine, other):
    """joined_both of two machines known to have the same names."""
    good, also = machine[4], other[4]
    return _joined(machine, other, lambda states: states[0] in good and states[1] in also)


def _joined_either(machine, other):
    """joined_either of two machines known to have the same names."""
    good, also = machine[4], other[4]
    return _joined(machine, other, lambda states: states[0] in good or states[1] in also)


def _joined(machine, other, is_good):
    """The least machine that runs both at once, its states pairs of theirs."""
    begin = [list(zip(row, others)) for row, others in zip(machine[1], other[1])]
    step, also = machine[3], other[3]

    def stepped(states, by):
        return (step[states[0]][by[0]], also[states[1]][by[1]])

    return _least(machine[0], begin, (machine[2], other[2]), stepped, is_good)


def with_name(machine, name):
    """The least machine that lets what the machine lets, wherever one name more stands."""
    check_machine(machine)
    if not is_name(name) or name in machine[0] or len(machine[0]) == MOST_NAMES:
        raise BadName("this is no name that the machine can have besides its own")
    return _with_name(machine, name)


def _with_name(machine, name):
    """with_name of a name that the machine is known to have not."""
    names = tuple(sorted([*machine[0], name]))
    at = names.index(name)
    lays = [_narrowed(lay, at) for lay in range(1 << len(names))]
    begin = [[row[lay] for lay in lays] for row in machine[1]]
    good = machine[4]
    return _least(names, begin, machine[2], _step_of(machine), lambda state: state in good)


def _narrowed(lay, at):
    """The lay without the bit at this place."""
    return (lay & ((1 << at) - 1)) | ((lay >> (at + 1)) << at)


def _widened(lay, at):
    """The lay with a bit more, of 0, at this place."""
    return (lay & ((1 << at) - 1)) | ((lay >> at) << (at + 1))


def without(machine, name):
    """The least machine of the other names that lets what the machine lets with this name put somewhere."""
    check_machine(machine)
    if not is_name(name) or name not in machine[0]:
        raise BadName("this is no name of the machine")
    return _without(machine, name)


def _without(machine, name):
    """without of a name that the machine is known to have: its states are sets of the machine's, told by bits."""
    names, begin, top, step, good = machine
    at = names.index(name)
    lays = [_widened(lay, at) for lay in range(1 << (len(names) - 1))]
    begun = [[(1 << row[lay]) | (1 << row[lay | (1 << at)]) for lay in lays] for row in begin]
    # What a set is to all others is worked out once: there may be far more pairs of sets than sets.
    members = {}
    led = {}

    def stepped(states, by):
        if states not in members:
            members[states] = _members(states)
        if by not in led:
            led[by] = _led(step, _members(by))
        found = 0
        for state in members[states]:
            found = found | led[by][state]
        return found

    fewer = names[:at] + names[at + 1:]
    return _least(fewer, begun, 1 << top, stepped, lambda states: any([(states >> state) & 1 for state in good]))


def _members(states):
    """The ascending list of the members of a set told by bits."""
    return [state for state in range(states.bit_length()) if (states >> state) & 1]


def _led(step, by):
    """The list, for each state, of the set of those to which it steps by some of these, told by bits."""
    found = []
    for row in step:
        states = 0
        for state in by:
            states = states | (1 << row[state])
        found.append(states)
    return found


def once(names):
    """The least machine that lets just the layings in which each name stands at one node just."""
    if not _are_names(names):
        raise BadNames("this is no ascending tuple of none to five names")
    return _once(names)


def _once(names):
    """once of names known to be right: its states are the sets of names that have come, told as lays."""
    every = (1 << len(names)) - 1
    twice = every + 1

    def stepped(lay, by):
        return twice if lay == twice or by == twice or lay & by else lay | by

    begin = [list(range(twice))] * len(MARKS)
    return _least(names, begin, 0, stepped, lambda lay: lay == every)


def machine_of(saying):
    """The least machine that lets just the layings of the saying's matches, each free name at one node."""
    check_saying(saying)
    return _machine_of(saying)


def _machine_of(saying):
    """machine_of of what is known to be a saying, made part by part."""
    sort = saying[0]
    parts = [_machine_of(part) for part in sayings_within(saying)]
    if not parts:
        return _relation_machine(saying)
    if sort == "not":
        return _denied(parts[0])
    if sort == "some":
        return _some(saying[1], parts[0])
    if sort == "all":
        return _denied(_some(saying[1], _denied(parts[0])))
    names = free_in(saying)
    machine, other = [_with_names(part, names) for part in parts]
    if sort == "both":
        return _joined_both(machine, other)
    return _joined_both(_joined_either(machine, other), _once(names))


def _relation_machine(saying):
    """The machine of a saying of the first seven sorts."""
    names = free_in(saying)
    begin = relation_begin(saying, names)
    return _least(names, begin, relation_top(saying), relation_step(saying), lambda state: state == "done")


def _with_names(machine, names):
    """The machine with those of the names that it has not, wherever they stand."""
    for name in names:
        if name not in machine[0]:
            machine = _with_name(machine, name)
    return machine


def _denied(machine):
    """The machine that lets what the machine of a saying does not let, each name at one node."""
    good = machine[4]
    states = _once(machine[0])
    every = states[4]
    return _joined(machine, states, lambda pair: pair[0] not in good and pair[1] in every)


def _some(name, machine):
    """The machine of a some of this name, given that of the saying in it."""
    if name not in machine[0]:
        # There is a node, though the saying does not tell of it.
        machine = _with_name(machine, name)
        machine = _joined_both(machine, _once(machine[0]))
    return _without(machine, name)
