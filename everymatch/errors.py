"""The errors of the package: each one stands directly under MatchError, none under another one."""


class MatchError(ValueError):
    """Any error of this package."""


class BadDocument(MatchError):
    """What was given as a document is none."""


class BadNode(MatchError):
    """What was given as a node is no node of the document."""


class BadPlace(MatchError):
    """What was given as a place is no place of a node of the document."""


class BadText(MatchError):
    """A text that cannot be read; place is the index at which it goes wrong."""

    def __init__(self, place):
        super().__init__(f"the text cannot go on at {place}")
        self.place = place


class BadEdit(MatchError):
    """What was given as an edit is none, or does not fit the document."""


class BadPairs(MatchError):
    """What was given as the pairs of two documents are none."""


class BadSaying(MatchError):
    """What was given as a saying is none."""


class BadNodes(MatchError):
    """What was given as a tuple of nodes is none."""


class BadNames(MatchError):
    """What was given as names, or as pairs of names, are none."""


class BadMachine(MatchError):
    """What was given as a machine is none."""


class BadLaying(MatchError):
    """What was given as a laying of a document is none."""


class BadMachines(MatchError):
    """Two machines have not the same names."""


class BadName(MatchError):
    """What was given as a name is none that can be taken."""


class TooMany(MatchError):
    """More states, nodes or sayings would come than there may be."""


class BadSayings(MatchError):
    """What was given as sayings are none, or have not the same free names."""


class BadShape(MatchError):
    """What was given as a shape is none."""


class BadCount(MatchError):
    """What was given as a count is none that can be taken."""


class BadBalance(MatchError):
    """What was given as a balanced shape is not balanced, or would become too wide."""


class BadNumber(MatchError):
    """What was given as the number of a match is none."""


class BadEdition(MatchError):
    """What was given as the number of an edition is none."""


class BadIndex(MatchError):
    """What was given as the index of a saying is none."""
