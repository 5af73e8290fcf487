"""Documents to try things on, objects that are none, and a plain second way to tell what is right.

The second way reads documents as nested lists [name, mark, children] and edits these lists.
"""

from functools import lru_cache
from itertools import product

from everymatch.errors import TooMany
from everymatch.machines import machine_of
from everymatch.meaning import matches
from everymatch.sayings import is_saying, read_saying


class Same:
    """An object that says it is equal to all."""

    def __eq__(self, other):
        return True

    def __hash__(self):
        return 0


def row(many, mark="a"):
    return tuple((mark, 0) for _ in range(many))


def chain(many, mark="a"):
    return tuple((mark, node) for node in range(many))


def comb(many, mark="a"):
    """A chain each node of which has a leaf ahead of the next node of the chain."""
    return tuple((mark, (node + 1) // 2) for node in range(many))


GREAT = (row(20000), chain(20000), comb(20000))
TOO_GREAT = (row(20001), chain(20001), comb(20001))

# None of these is an integer, a tuple or a str.
ANY_OBJECTS = (True, False, b"", b"a", [], [0], {}, {0: 0}, {0}, object(), Same(), len, int)

NOT_DOCUMENTS = ANY_OBJECTS + TOO_GREAT + (
    None, 0, 1, -1, 10 ** 30, "", "a", "a(b)", ("a", 0), ("a",), (0,), (None,), ((),),
    [("a", 0)], (["a", 0],), (("a", 0), ["b", 1]), ((("a", 0),),), ((("a", 0), ("b", 0)),),
    (("a",),), (("a", 0, 0),), (("a", 0), ("b", 1, None)), ((0, "a"),),
    (("a", True),), (("a", False),), (("a", 0), ("b", True)), (("a", None),), (("a", "0"),), (("a", (0,)),),
    (("a", Same()),), ((Same(), 0),), ((None, 0),), ((0, 0),), ((b"a", 0),), ((("a",), 0),), ((["a"], 0),),
    (("", 0),), (("i", 0),), (("A", 0),), (("ab", 0),), ((" ", 0),), (("(", 0),), (("abcdefgh", 0),),
    (("a", 1),), (("a", -1),), (("a", 0), ("b", 2)), (("a", 0), ("b", -1)), (("a", 0), ("b", 1), ("c", 3)),
    (("a", 0), ("b", 1), ("c", 0), ("d", 2)), (("a", 10 ** 30),), (("a", 0), ("b", -10 ** 30)),
)

NOT_NODES = ANY_OBJECTS + ("", "0", (), (0,), (None,), -1, -10 ** 30, 10 ** 30)

NOT_MARKS = ANY_OBJECTS + (None, 0, 1, "", "i", "A", "ab", "abcdefgh", " ", "p", ("a",))


@lru_cache(maxsize=None)
def depths(many):
    """All rows of depths that a document of so many nodes can have."""
    if many == 0:
        return ((),)
    return tuple(ahead + (depth,) for ahead in depths(many - 1)
                 for depth in range(ahead[-1] + 2 if ahead else 1))


def all_documents(most, marks="a"):
    """All documents of at most so many nodes with these marks."""
    return [tuple(zip(signs, below)) for many in range(most + 1) for below in depths(many)
            for signs in product(marks, repeat=many)]


def lettered(most):
    """One document of each form of at most so many nodes, the marks going around."""
    return [tuple(("abcdefgh"[node % 8], depth) for node, depth in enumerate(below))
            for many in range(most + 1) for below in depths(many)]


def to_trees(document, names=None):
    """The row of trees [name, mark, children] at the top; a node's name is its number if none is told."""
    top = []
    path = []
    for node, (mark, depth) in enumerate(document):
        tree = [node if names is None else names, mark, []]
        path = path[:depth]
        (path[-1][2] if path else top).append(tree)
        path.append(tree)
    return top


def walk(trees, depth=0):
    """All of the trees' nodes in reading order, as (tree, depth, its row, its place in the row)."""
    found = []
    for which, tree in enumerate(trees):
        found.append((tree, depth, trees, which))
        found.extend(walk(tree[2], depth + 1))
    return found


def from_trees(trees):
    """The document of a row of trees, and the names along it."""
    nodes = walk(trees)
    return (tuple((tree[1], depth) for tree, depth, _, _ in nodes), [tree[0] for tree, _, _, _ in nodes])


def tried(document, edit):
    """The edited document and the elder names along it (None for new nodes), or None if it does not fit."""
    top = to_trees(document)
    try:
        return from_trees(edited_trees(top, edit))
    except LookupError:
        return None


def edited_trees(top, edit):
    """The row of trees behind an edit; LookupError if it does not fit."""
    if edit[0] == "put":
        insert(top, edit[1], to_trees(edit[2], "new")[0])
        return top
    tree, _, trees, which = walk(top)[edit[1]]
    if edit[0] == "mark":
        tree[1] = edit[2]
        return top
    del trees[which]
    if edit[0] == "move":
        insert(top, edit[2], tree)
    return top


def insert(top, place, tree):
    """Insert the tree at the place; LookupError if there is no such place."""
    parent, which = place
    trees = top if parent is None else walk(top)[parent][0][2]
    if which > len(trees):
        raise LookupError(place)
    trees.insert(which, tree)


PIECES = ((("h", 0),), (("g", 0), ("f", 1)), (("a", 0), ("b", 1), ("c", 2), ("d", 1)))


def edits_near(document):
    """Edits of all words, those that fit the document and those that miss it narrowly."""
    nodes = range(len(document) + 2)
    places = [(parent, which) for parent in (None, *nodes) for which in nodes]
    return ([("mark", node, mark) for node in nodes for mark in "ah"]
            + [("take", node) for node in nodes]
            + [("put", place, piece) for place in places for piece in PIECES]
            + [("move", node, place) for node in nodes for place in places])


NOT_NAMES = ANY_OBJECTS + (None, 0, 1, "", "a", "h", "i", "o", "P", "xy", "pqrstuvwxyz", " ", ("x",))

NOT_ROWS_OF_MARKS = ANY_OBJECTS + (
    None, 0, "", "a", "abc", (), ["a"], ("a", "a"), ("b", "a"), ("a", "c", "b"), ("a", "b", "b"), ("i",), ("x",),
    ("ab",), ("A",), ("",), ("a", 1), (None,), (True,), (("a",),), ("a", ("b",)), ("a", ["b"]), (Same(),),
    tuple("abcdefghi"), tuple("abcdefgha"), tuple("hgfedcba"))

# A saying of each sort.
SAYINGS = (
    ("marked", "x", ("a",)), ("marked", "p", tuple("abcdefgh")), ("child", "x", "y"), ("below", "y", "x"),
    ("next", "x", "y"), ("after", "z", "p"), ("same", "x", "y"), ("same", "x", "x"), ("top", "x"),
    ("both", ("top", "x"), ("child", "x", "y")), ("either", ("same", "p", "z"), ("marked", "p", ("b", "h"))),
    ("not", ("top", "x")), ("some", "x", ("top", "x")), ("all", "y", ("child", "x", "y")),
)

NOT_SAYINGS = ANY_OBJECTS + (
    None, 0, 1, "", "x top", "top", (), ("top",), (("top", "x"),), (None,), (0,), (True,), (Same(),), ([],),
    ("marked", "x"), ("not",), ("some", "x"), ("x", "top"), ("under", "x", "y"), ("over", "x", "y"),
    ("in", "x", ("a",)), ("and", ("top", "x"), ("top", "x")), ("", "x"), ("TOP", "x"), (b"top", "x"),
    (("top",), "x"), (["top"], "x"), ("some", "x", "x"), ("not", "x"), ("not", ("not",)),
)

TOLD = tuple("""(x in M and some y (x above y and y in N))
(x in M or (x top and some y x over y))
(x in M and not some y (x above y and y in N))
some z (x over z and (z in M and z above y))
(x in M and all y (not x over y or y in N))
(x then y and (x in M and y in N))
(x above y and not some z (x above z and (z above y and z in M)))
(x over y and (x over z and y ahead z))
(x over y and (y over z and (x in M and z in N)))
some x (x in M and some y (x above y and some z (y above z and z in N)))
all x (not x in M or some y (y above x and (y in N and y top)))
(some y (x over y and y in M) and (some y (x over y and y in N) and some z (x over z and z in K)))
((x above y and y in M) or (y above x and x in N))
((x then y or y then x) and (x in M or y in M))
all y (not x above y or (y in M or some z (y over z and z in N)))
(x above z and (y above z and not x is y))
(z in M and (x ahead z and some y (z over y and y in N)))
(x in M and ((y in N and x over y) or (y in K and x above y)))
some p (not p top and some q (p over q and some r (q over r and some s (r over s and some t s over t))))
(not x top and some q (x then q and some r (q then r and some s r then s)))""".split("\n"))


def changed_entries(thing, worse):
    """The tuple with each of its entries, at any depth, changed in each way that worse tells for an entry."""
    found = list(worse(thing))
    for at, entry in enumerate(thing if isinstance(thing, tuple) else ()):
        found.extend(thing[:at] + (other,) + thing[at + 1:] for other in changed_entries(entry, worse))
    return found


def nested(sort, many, inner):
    """The saying with so many nots, or somes or alls of the names told, around it."""
    for name in many:
        inner = (sort, inner) if sort == "not" else (sort, name, inner)
    return inner


def of_many(many, leaf=("top", "x")):
    """A saying of so many sayings that nests no deeper than it must."""
    if many < 3:
        return leaf if many == 1 else ("not", leaf)
    half = (many - 1) // 2
    half -= 1 - half % 2
    return ("both", of_many(half, leaf), of_many(many - 1 - half, leaf))


def free_plainly(saying):
    """The set of the free names of a saying."""
    sort = saying[0]
    if sort in ("both", "either"):
        return free_plainly(saying[1]) | free_plainly(saying[2])
    if sort == "not":
        return free_plainly(saying[1])
    if sort in ("some", "all"):
        return free_plainly(saying[2]) - {saying[1]}
    return {saying[1]} if sort in ("marked", "top") else {saying[1], saying[2]}


def holds_plainly(saying, document, known):
    """Whether the saying holds, read word by word; known tells the nodes of its free names."""
    sort, first = saying[:2]
    if sort == "not":
        return not holds_plainly(first, document, known)
    if sort in ("both", "either"):
        answers = [holds_plainly(part, document, known) for part in saying[1:]]
        return all(answers) if sort == "both" else any(answers)
    if sort in ("some", "all"):
        answers = [holds_plainly(saying[2], document, {**known, first: node}) for node in range(len(document))]
        return any(answers) if sort == "some" else all(answers)
    spots = {tree[0]: (trees, which, tree) for tree, _, trees, which in walk(to_trees(document))}
    row, which, tree = spots[known[first]]
    if sort == "marked":
        return tree[1] in saying[2]
    if sort == "top":
        return document[known[first]][1] == 0
    other_row, other_which, other_tree = spots[known[saying[2]]]
    if sort == "child":
        return other_row is tree[2]
    if sort == "below":
        return any(other_tree is one for one, _, _, _ in walk(tree[2]))
    if sort == "same":
        return tree is other_tree
    ahead = other_which - which
    return row is other_row and (ahead == 1 if sort == "next" else ahead > 0)


def matches_plainly(saying, document):
    """The list of the matches of the saying, in their sequence."""
    free = sorted(free_plainly(saying))
    return [nodes for nodes in product(range(len(document)), repeat=len(free))
            if holds_plainly(saying, document, dict(zip(free, nodes)))]


def relations(names):
    """All sayings of the first seven sorts with these names, each sort of marks once."""
    found = [(sort, x, y) for sort in ("child", "below", "next", "after", "same") for x in names for y in names]
    return found + [("top", x) for x in names] + [("marked", x, ("a", "c")) for x in names]


def some_saying(rng, deep, names):
    """A saying, or nearly one, by chance: no deeper than told, of these names."""
    if deep == 0 or rng.random() < 0.2:
        return rng.choice(relations(names))
    sort = rng.choice(("both", "either", "both", "either", "not", "some", "all"))
    if sort == "not":
        return (sort, some_saying(rng, deep - 1, names))
    first = rng.choice(names) if sort in ("some", "all") else some_saying(rng, deep - 1, names)
    return (sort, first, some_saying(rng, deep - 1, names))


def steps_of(many, step):
    """The table of steps of so many states."""
    return tuple(tuple(step(q, r) for r in range(many)) for q in range(many))


def counter(many):
    """A machine that counts the nodes at the top, its last state kept; the state behind these is all nodes' own."""
    return ((), ((many,),) * 8, 0, steps_of(many + 1, lambda q, r: min(q + 1, many - 1) if q < many else many),
            (many - 1,))


def wheel(many):
    """A machine that counts the nodes at the top around; the state behind these is all nodes' own."""
    return ((), ((many,),) * 8, 0, steps_of(many + 1, lambda q, r: (q + 1) % many if q < many else many), (0,))


def named(machine, names):
    """A machine without names, told as one that does not look at these names."""
    return (tuple(names),) + (tuple(row * 2 ** len(names) for row in machine[1]),) + machine[2:]


def by_chance(rng, many, names):
    """A machine of so many states, made by chance; its steps are of a few kinds, so that not all are told apart."""
    kind = rng.randrange(4)
    rows = (lambda q, r: rng.randrange(many), lambda q, r: min(q + r, many - 1), lambda q, r: max(q, r),
            lambda q, r: rng.choice((q, r, many - 1)))
    begin = tuple(tuple(rng.randrange(many) for _ in range(2 ** len(names))) for _ in range(8))
    good = tuple(state for state in range(many) if rng.random() < 0.4)
    return (tuple(names), begin, rng.randrange(many), steps_of(many, rows[kind]), good)


def shuffled(rng, machine, more):
    """The machine with its states numbered anew, and so many more that are never come to."""
    names, begin, top, step, good = machine
    many = len(step) + more
    new = rng.sample(range(many), many)
    table = [[rng.randrange(many) for _ in range(many)] for _ in range(many)]
    for q, row in enumerate(step):
        for r, state in enumerate(row):
            table[new[q]][new[r]] = new[state]
    never = [new[state] for state in range(len(step), many) if rng.random() < 0.5]
    return (names, tuple(tuple(new[state] for state in row) for row in begin), new[top],
            tuple(tuple(row) for row in table), tuple(sorted([new[state] for state in good] + never)))


def layings(many, names):
    """All layings of so many nodes, of so many names."""
    return list(product(range(2 ** names), repeat=many))


def run_plainly(machine, document, laying):
    """The nodes' states along the document, and its own, told from the leaves on."""
    names, begin, top, step, good = machine
    states = {}

    def state_below(start, trees):
        for tree in trees:
            mark = begin["abcdefgh".index(tree[1])][laying[tree[0]]]
            states[tree[0]] = state_below(mark, tree[2])
            start = step[start][states[tree[0]]]
        return start

    whole = state_below(top, to_trees(document))
    return tuple(states[node] for node in range(len(document))), whole


def lets_plainly(machine, document, laying):
    return run_plainly(machine, document, laying)[1] in machine[4]


def same_plainly(machine, other, documents):
    """Whether two machines of the same names let the same layings of these documents."""
    return all(lets_plainly(machine, document, laying) == lets_plainly(other, document, laying)
               for document in documents for laying in layings(len(document), len(machine[0])))


def closed(states, steps):
    """The list of the states and of all to which the steps, a function of a list of states, lead from them."""
    states = list(dict.fromkeys(states))
    while True:
        more = list(dict.fromkeys(states + steps(states)))
        if len(more) == len(states):
            return states
        states = more


def least_plainly(machine):
    """The least machine as point 18 tells it, of any number of states; ("n", state) is a node's, ("t", state) a top's."""
    names, begin, top, step, good = machine
    nodes = closed([state for row in begin for state in row], lambda found: [step[q][r] for q in found for r in found])
    tops = closed([top], lambda found: [step[q][r] for q in found for r in nodes])
    all_states = [("n", state) for state in nodes] + [("t", state) for state in tops]
    classes = {(kind, state): (kind, kind == "t" and state in good) for kind, state in all_states}
    while True:
        traits = {(kind, state): (classes[kind, state],
                                  tuple(classes[kind, step[state][r]] for r in nodes),
                                  tuple(classes["n", step[q][state]] for q in nodes) if kind == "n" else (),
                                  tuple(classes["t", step[q][state]] for q in tops) if kind == "n" else ())
                  for kind, state in all_states}
        numbers = {trait: number for number, trait in enumerate(dict.fromkeys(traits.values()))}
        if len(numbers) == len(set(classes.values())):
            break
        classes = {state: numbers[trait] for state, trait in traits.items()}
    found = list(dict.fromkeys([classes["t", top]] + [classes["n", state] for row in begin for state in row]))
    one_of = {classes[state]: state for state in all_states}
    before = 0
    while len(found) > before:
        before = len(found)
        pairs = sorted((max(q, r), q, r) for q in range(before) for r in range(before))
        for _, q, r in pairs:
            (kind, state), (other, by) = one_of[found[q]], one_of[found[r]]
            if other == "n" and classes[kind, step[state][by]] not in found:
                found.append(classes[kind, step[state][by]])
    told = [one_of[one] for one in found]
    return (names, tuple(tuple(found.index(classes["n", state]) for state in row) for row in begin), 0,
            tuple(tuple(found.index(classes[kind, step[state][by]]) if other == "n" else 0 for other, by in told)
                  for kind, state in told),
            tuple(number for number, (kind, state) in enumerate(told) if kind == "t" and state in good))


def eight_marks(word):
    """The text of a saying of all marks standing anywhere; its machine has 512 states where it says and."""
    texts = [f"some p p in {mark}" for mark in "abcdefgh"]
    while len(texts) > 1:
        texts = texts[2:] + [f"({texts[0]} {word} {texts[1]})"]
    return texts[0]


def document_by_chance(rng, many, marks="abcd"):
    """A document of so many nodes, by chance deep or wide."""
    found = []
    bias = rng.random()
    for _ in range(many):
        ahead = found[-1][1] if found else -1
        depth = rng.randint(0, ahead + 1) if rng.random() < bias else rng.choice((ahead + 1, max(ahead, 0), 0))
        found.append((rng.choice(marks), depth))
    return tuple(found)


def children_plainly(document, node):
    """How many children a node, or the top, has."""
    trees = to_trees(document)
    return len(trees if node is None else walk(trees)[node][0][2])


def edit_by_chance(rng, document):
    """An edit that fits the document, of any word that can."""
    word = rng.choice(("mark", "put", "take", "move") if document else ("put",))
    node = rng.randrange(len(document)) if document else None
    if word == "mark":
        return (word, node, rng.choice("abcd"))
    if word == "take":
        return (word, node)
    left = document if word == "put" else tried(document, ("take", node))[0]
    parent = rng.choice([None, *range(len(left))])
    place = (parent, rng.randint(0, children_plainly(left, parent)))
    if word == "move":
        return (word, node, place)
    piece = document_by_chance(rng, rng.randint(0, 3))
    return (word, place, ((rng.choice("abcd"), 0),) + tuple((mark, depth + 1) for mark, depth in piece))


def saying_by_chance(rng, names="xyzp", free=3):
    """A saying by chance, one of those told among them, of at most so many free names and few nodes to tell."""
    while True:
        saying = some_saying(rng, rng.choice((1, 2, 3)), names)
        if rng.random() < 0.4:
            rows = {"M": "ac", "N": "b", "K": "bd"}
            saying = read_saying("".join(rows.get(sign, sign) for sign in rng.choice(TOLD)))
        if is_saying(saying) and len(free_plainly(saying)) <= free and machine_fits(saying):
            return saying


@lru_cache(maxsize=None)
def machine_fits(saying):
    """Whether the saying has a machine of few states."""
    try:
        return len(machine_of(saying)[3]) <= 60
    except TooMany:
        return False


def changed_plainly(elder, newer, pairs, saying):
    """(the matches that are added, those that are taken), by trying in both documents."""
    before, behind = matches(saying, elder), matches(saying, newer)
    if not free_plainly(saying):
        return ([()] if behind and not before else [], [()] if before and not behind else [])
    back = {twin: node for node, twin in enumerate(pairs) if twin is not None}
    return ([nodes for nodes in behind if tuple(back.get(node) for node in nodes) not in before],
            [nodes for nodes in before if tuple(pairs[node] for node in nodes) not in behind])


def ceiling(saying, reached):
    """How many parts match, number, behind and is_match may look at."""
    return (len(free_plainly(saying)) + 1) * (12 * reached + 12)


def edit_ceiling(edit, reached):
    """How many parts an edit may look at."""
    return 16 * reached + 16 + (6 * len(edit[2]) if edit[0] == "put" else 0)
