"""The errors of the package."""


class HalfError(ValueError):
    """Every error of the package."""


class UnknownName(HalfError):
    """A name that is not among the names."""

    def __init__(self, name):
        super().__init__("a name that is not among the names")
        self.name = name


class TooMany(HalfError):
    """More things of a kind than are allowed."""

    def __init__(self, what):
        super().__init__("too many of a kind")
        self.what = what


class TooGreat(HalfError):
    """Something that is greater than is allowed."""

    def __init__(self, what):
        super().__init__("greater than is allowed")
        self.what = what


class OutOfRange(HalfError):
    """A number, or a thing of numbers, that lies outside of what is allowed."""

    def __init__(self, value):
        super().__init__("outside of what is allowed")
        self.value = value


class WrongMark(HalfError):
    """A mark or a side that has no meaning here."""

    def __init__(self, mark):
        super().__init__("a word that has no meaning here")
        self.mark = mark


class WrongSize(HalfError):
    """A tuple of the wrong length."""

    def __init__(self, size):
        super().__init__("a wrong number of entries")
        self.size = size


class NotAFunction(HalfError):
    """Numbers that no saying has; the place is that of the first wrong one."""

    def __init__(self, place):
        super().__init__("numbers that no saying has")
        self.place = place


class NoEdge(HalfError):
    """A pair of numbers that is no edge of the mesh."""

    def __init__(self, edge):
        super().__init__("no edge of the mesh")
        self.edge = edge


class BadText(HalfError):
    """A text that cannot be read; the place is where reading ends."""

    def __init__(self, place):
        super().__init__("a text that cannot be read")
        self.place = place


class NameTaken(HalfError):
    """A name that should be new and is not."""

    def __init__(self, name):
        super().__init__("a name that is taken")
        self.name = name


class NothingToUndo(HalfError):
    """There is no change to take back."""

    def __init__(self):
        super().__init__("nothing to undo")


class NothingToRedo(HalfError):
    """There is no change to do again."""

    def __init__(self):
        super().__init__("nothing to redo")
