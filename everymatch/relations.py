"""The machines of the first seven sorts of sayings, made by hand, before they are least ones.

Their states are told by words: "none" where neither name stands; "x" and "y" where the first or the second
name stands at the node itself and the other one is not found yet ("y" also for one further down, of a
below); "half" where the child just stepped by has the first name; "done"; "wrong", which no good one follows.
"""

from everymatch.basics import MARKS
from everymatch.sayings import names_within

# What the sorts have of their own. All share _common_step.
STEPS = {
    ("child", "x", "y"): "done",
    ("below", "x", "y"): "done",
    ("below", "none", "y"): "y",
    ("next", "none", "x"): "half",
    ("next", "half", "none"): "wrong",
    ("next", "half", "y"): "done",
    ("after", "none", "x"): "half",
    ("after", "half", "y"): "done",
    ("top", "half", "x"): "done",
}


def relation_begin(saying, names):
    """The states in which nodes begin, by marks, then by lays of the names."""
    places = [names.index(name) for name in names_within(saying)]
    return [[_begin(saying, places, mark, lay) for lay in range(1 << len(names))] for mark in MARKS]


def _begin(saying, places, mark, lay):
    """The state in which a node of the mark begins where the names of the lay stand."""
    sort = saying[0]
    first = (lay >> places[0]) & 1
    last = (lay >> places[-1]) & 1
    if first != last:
        return "x" if first else "y"
    if not first:
        return "none"
    if sort == "top":
        return "x"
    return "done" if sort == "same" or (sort == "marked" and mark in saying[2]) else "wrong"


def relation_top(saying):
    """The state in which the top begins: that of the sort top goes on by other steps than nodes do."""
    return "half" if saying[0] == "top" else "none"


def relation_step(saying):
    """The function that steps a state by another one."""
    sort = saying[0]
    return lambda state, by: STEPS.get((sort, state, by), _common_step(state, by))


def _common_step(state, by):
    """The step where a sort has none of its own."""
    if by == "none":
        return state
    return "done" if state == "none" and by == "done" else "wrong"
