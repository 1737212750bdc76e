"""The errors of the library."""


class LikeholesError(ValueError):
    """The base class of all errors of the library."""


class InvalidIndex(LikeholesError):
    """The index is not the index of an arrangement."""


class InvalidPins(LikeholesError):
    """The value is not a list or tuple of slots to pin."""


class InvalidPlacements(LikeholesError):
    """The value is not a list or tuple of required placements."""


class NotPinned(LikeholesError):
    """The slot is not pinned."""


class NothingToUndo(LikeholesError):
    """The history is empty."""


class PlacementNotMet(LikeholesError):
    """The arrangement does not satisfy a required placement."""


class UnknownItem(LikeholesError):
    """The value is not the name of an item."""


class UnknownSlot(LikeholesError):
    """The value is not a slot of the inventory."""


class InvalidArrangement(LikeholesError):
    """The value is not an arrangement, for this reason."""

    def __init__(self, reason):
        self.reason = reason


class InvalidInventory(LikeholesError):
    """The value is not an inventory, for this reason."""

    def __init__(self, reason):
        self.reason = reason


class InvalidMove(LikeholesError):
    """The value is not a move that applies, for this reason."""

    def __init__(self, reason):
        self.reason = reason


class InvalidMoves(LikeholesError):
    """The value is not a move list, for this reason."""

    def __init__(self, reason):
        self.reason = reason


class PinnedSlot(LikeholesError):
    """An item in this pinned slot would have to move."""

    def __init__(self, slot):
        self.slot = slot
