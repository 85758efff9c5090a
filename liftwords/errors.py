"""The errors of both parts of the package."""


class LiftError(ValueError):
    """An argument that is refused."""


class BadSize(LiftError):
    """A value that is no size."""

    def __init__(self, value):
        self.value = value


class BadLetters(LiftError):
    """Letters that are no list or tuple (place is None), or the place of one that is no letter."""

    def __init__(self, place):
        self.place = place


class BadIndex(LiftError):
    """A value that is no index of the size."""

    def __init__(self, value):
        self.value = value


class BadNumber(LiftError):
    """A value that is no number of the kind that is wanted."""

    def __init__(self, value):
        self.value = value


class BadDeed(LiftError):
    """A row that is no row of deeds (place is None), or the place of an item that is no deed."""

    def __init__(self, place):
        self.place = place


class BadTable(LiftError):
    """Rows that are no table (row is None), or the number of the first row that cannot stand."""

    def __init__(self, row):
        self.row = row


class BadMove(LiftError):
    """Moves that are no list or tuple (place is None), or the place of one that cannot be made."""

    def __init__(self, place):
        self.place = place


class BadShape(LiftError):
    """A value that is no shape of the size."""

    def __init__(self, value):
        self.value = value


class BadRecording(LiftError):
    """Rows that are no recording of the shape of the table."""


class OtherSize(LiftError):
    """Two objects whose sizes differ."""


class OtherHouse(LiftError):
    """A table, or a reach, of another house."""


class BadRow(LiftError):
    """A row that is no row of indexes (place is None), or the place of an item that is no index."""

    def __init__(self, place):
        self.place = place


class BadCounts(LiftError):
    """A value that is no counts of the size, or a bag that is none (value is None)."""

    def __init__(self, value):
        self.value = value


class BadText(LiftError):
    """A value that is no string (place is None), or the place at which the text cannot go on."""

    def __init__(self, place):
        self.place = place


class NothingLeft(LiftError):
    """There is no step to take back, or none to do again."""


class Stuck(RuntimeError):
    """A deed that cannot be done, by its place in the row."""

    def __init__(self, place):
        self.place = place


class TooGreat(OverflowError):
    """More than the number that can be dealt with is wanted."""

    def __init__(self, most):
        self.most = most
