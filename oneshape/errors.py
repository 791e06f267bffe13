"""The errors of the package.

Those without a field are made with one string; the others keep the very value
that they are made with.
"""


class ShapeError(ValueError):
    """Each error of the package is one of these."""


class InvalidRanking(ShapeError):
    """What should be a ranking is none."""


class InvalidContent(ShapeError):
    """What should be a content is none."""


class InvalidTree(ShapeError):
    """What should be the tree of some content, or a search tree, is none."""


class InvalidKey(ShapeError):
    """What should be a key is none."""


class InvalidCount(ShapeError):
    """What should be a number within some bounds is none."""


class InvalidLevels(ShapeError):
    """What should be levels is none."""


class InvalidPage(ShapeError):
    """What should be the page of some content is none."""


class InvalidStretch(ShapeError):
    """What should be a page stretch is none."""


class InvalidWalk(ShapeError):
    """What should be a page walk is none."""


class InvalidStore(ShapeError):
    """What should be a store, or several, is none."""


class InvalidViews(ShapeError):
    """What should be views is none."""


class InvalidTold(ShapeError):
    """What should be told looks is none."""


class InvalidPlan(ShapeError):
    """What should be a plan is none."""


class InvalidLot(ShapeError):
    """What should be a lot is none."""


class InvalidChoices(ShapeError):
    """What should be choices is none."""


class InvalidEdition(ShapeError):
    """What should be the index of an edition is none."""


class InvalidPaper(ShapeError):
    """What should be a paper is none."""


class InvalidWorth(ShapeError):
    """What should be a worth is none."""


class InvalidCommand(ShapeError):
    """What should be a command is none."""


class InvalidOrder(ShapeError):
    """What should be a rank order is none."""


class InvalidTrees(ShapeError):
    """What should be told trees is none."""


class InvalidContents(ShapeError):
    """What should be a tuple of contents is none."""


class Refused(ShapeError):
    """The arguments are good one by one, but not together."""


class NothingToUndo(ShapeError):
    """No deed stands that could be taken back."""


class NoSpan(ShapeError):
    """No span is open."""


class NotReady(ShapeError):
    """No live store is chosen, or none stands by the name."""


class InvalidText(ShapeError):
    """No text of the form has one character more of this text than index."""

    def __init__(self, index):
        self.index = index


class InvalidEditions(ShapeError):
    """The entry with this index is the first one that is no edition."""

    def __init__(self, index):
        self.index = index


class InvalidDeeds(ShapeError):
    """The entry with this index is the first one that is no deed."""

    def __init__(self, index):
        self.index = index


class TooMany(ShapeError):
    """There are more than count."""

    def __init__(self, count):
        self.count = count


class NotShown(ShapeError):
    """The text has the form of a paper, but is the text of none; count tells why."""

    def __init__(self, count):
        self.count = count


class Clash(ShapeError):
    """At the keys of the lot the stores clash."""

    def __init__(self, lot):
        self.lot = lot


class TooHigh(ShapeError):
    """The keys of the lot would have longer ways than the bound."""

    def __init__(self, lot):
        self.lot = lot


class NotOne(ShapeError):
    """There is no only one, but all those of the lot."""

    def __init__(self, lot):
        self.lot = lot


class NoRanking(ShapeError):
    """Each key of the ring is told above the next one, the last one above the first."""

    def __init__(self, ring):
        self.ring = ring
