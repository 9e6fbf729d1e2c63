"""Books: sayings that are held, and what they leave open of other ones."""

from halftruths.bounds import check_bound
from halftruths.cells import least_on
from halftruths.errors import NothingToRedo, NothingToUndo, OutOfRange, TooMany
from halftruths.follow import least_uses
from halftruths.forms import constant, form_at, less, opposite
from halftruths.sayings import unknowns_of
from halftruths.trees import tree_pieces
from halftruths.values import compared

MOST_HELD = 4


class Block:
    """How a book was when a block was entered; outer is the block around it, or None."""

    def __init__(self, sayings, done, undone, outer):
        self.sayings = sayings
        self.done = done
        self.undone = undone
        self.outer = outer


class Book:
    """Holds sayings, and tells what is so at the points at which all of them are 1."""

    def __init__(self):
        self._sayings = ()
        # What was held before each change that can be undone, and before each undo that can be done again.
        self._done = ()
        self._undone = ()
        self._block = None

    def hold(self, saying):
        """Holds a saying; returns its number."""
        if len(self._sayings) == MOST_HELD:
            raise TooMany("held")
        check_bound(self._sayings + (saying,))
        self._change(self._sayings + (saying,))
        return len(self._sayings) - 1

    def drop(self, number):
        """No longer holds the saying with a number."""
        if not 0 <= number < len(self._sayings):
            raise OutOfRange(number)
        self._change(self._sayings[:number] + self._sayings[number + 1:])

    def _change(self, sayings):
        self._done = self._done + (self._sayings,)
        self._undone = ()
        self._sayings = sayings

    def undo(self):
        """Takes back the last change that has not been undone."""
        if not self._done:
            raise NothingToUndo()
        self._undone = self._undone + (self._sayings,)
        self._sayings = self._done[-1]
        self._done = self._done[:-1]

    def redo(self):
        """Does again the last change that was undone."""
        if not self._undone:
            raise NothingToRedo()
        self._done = self._done + (self._sayings,)
        self._sayings = self._undone[-1]
        self._undone = self._undone[:-1]

    def held(self):
        """The tuple of the held sayings."""
        return self._sayings

    def names(self):
        """The tuple of the unknowns of the held sayings."""
        return unknowns_of(self._sayings)

    def together(self):
        """The held sayings put together by `and`; `yes` if none is held."""
        if not self._sayings:
            return ("yes",)
        whole = self._sayings[0]
        for saying in self._sayings[1:]:
            whole = ("and", whole, saying)
        return whole

    def is_possible(self):
        """Whether all held sayings are 1 at some point."""
        return self.range_of(("yes",)) is not None

    def range_of(self, saying):
        """The least and the greatest value of a saying where all held ones are 1, each with a point; or None."""
        sayings = self._sayings + (saying,)
        check_bound(sayings)
        return range_in(tree_pieces(sayings, unknowns_of(sayings)))

    def answer(self, saying):
        """What the held sayings tell of a saying: `none`, `sure`, `never` or `open`."""
        found = self.range_of(saying)
        if found is None:
            return "none"
        if found[0][0] == (1, 1):
            return "sure"
        return "never" if found[1][0] == (0, 1) else "open"

    def uses_for(self, saying):
        """The least uses of all held sayings together for a saying; None if it does not follow."""
        return least_uses(self.together(), saying)

    def tried(self, sayings, saying):
        """The range of a saying if some sayings were held, too."""
        with self:
            for each in sayings:
                self.hold(each)
            found = self.range_of(saying)
        return found

    def tried_within(self, sayings, more, saying):
        """The ranges of a saying if some sayings and more were held, and if only the first ones were."""
        with self:
            for each in sayings:
                self.hold(each)
            found = (self.tried(more, saying), self.range_of(saying))
        return found

    def __enter__(self):
        self._block = Block(self._sayings, self._done, self._undone, self._block)
        return self

    def __exit__(self, kind, value, trace):
        self._sayings = self._block.sayings
        self._done = self._block.done
        self._undone = self._block.undone
        self._block = self._block.outer

    def __contains__(self, saying):
        return saying in self._sayings

    def __iter__(self):
        return iter(self._sayings)

    def __eq__(self, other):
        return isinstance(other, Book) and self._sayings == other._sayings


def range_in(pieces):
    """The range of the last saying of some pieces where all other ones are 1; None if they are so nowhere."""
    lowest = None
    highest = None
    for path, forms in pieces:
        one = constant(1, len(forms[0]) - 1)
        within = path + tuple([less(form, one) for form in forms[:-1]])
        least = least_on(within, forms[-1])
        if least is not None:
            low = form_at(forms[-1], least[0])
            if lowest is None or compared(low, lowest[0]) < 0:
                lowest = (low, least[0])
            point = least_on(within, opposite(forms[-1]))[0]
            high = form_at(forms[-1], point)
            if highest is None or compared(high, highest[0]) > 0:
                highest = (high, point)
    return None if lowest is None else (lowest, highest)
