"""Value forms, the web, and the corners of sayings."""

from math import gcd, lcm

from halftruths.bounds import check_bound
from halftruths.corners import corner_points
from halftruths.errors import TooMany
from halftruths.forms import opposite
from halftruths.questions import SIDES, form_by_side, leaf_form, not_form, question_of
from halftruths.sayings import parts_of, unknowns_of
from halftruths.values import check_names, compared, denominator_of, value_at

# By the number of unknowns; None for any number.
MOST_QUESTIONS = (None, None, 60, 16)


class Gathering:
    """The value forms of sayings for names, and the plain forms of all mixed questions that they ask."""

    def __init__(self, names):
        self.names = names
        self.questions = {}

    def forms_of(self, saying):
        """The list of the value forms of a saying, each once."""
        parts = parts_of(saying)
        if not parts:
            return [leaf_form(self.names, saying)]
        firsts = self.forms_of(parts[0])
        if saying[0] == "not":
            return [not_form(form) for form in firsts]
        found = {}
        for second in self.forms_of(parts[1]):
            for first in firsts:
                for side in self.sides_of(question_of(saying[0], first, second)):
                    found[form_by_side(saying[0], side, first, second)] = True
        return list(found)

    def sides_of(self, question):
        """The sides on which a question gives value forms; a mixed one is kept."""
        if question[0] + sum([number for number in question[1:] if number > 0]) <= 0:
            return ("most",)
        if question[0] + sum([number for number in question[1:] if number < 0]) >= 0:
            return ("least",)
        self.questions[plain_form(question)] = True
        return SIDES


def plain_form(question):
    """The plain form of a mixed question."""
    common = 0
    for number in question:
        common = gcd(common, number)
    leading = [number for number in question[1:] if number != 0][0]
    plain = tuple([number // common for number in question])
    return plain if leading > 0 else opposite(plain)


def common_web(sayings):
    """The web of a tuple of sayings, whatever their bounds."""
    gathering = Gathering(unknowns_of(sayings))
    for saying in sayings:
        gathering.forms_of(saying)
    return tuple(sorted(list(gathering.questions)))


def web_in_bound(sayings):
    """The web of a tuple of sayings; raises TooMany if it is too great for its corners."""
    return web_within(sayings, MOST_QUESTIONS)


def web_within(sayings, bounds):
    """The web of a tuple of sayings; raises TooMany if it is greater than the bound for so many unknowns."""
    web = web_of(sayings)
    most = bounds[len(unknowns_of(sayings))]
    if most is not None and len(web) > most:
        raise TooMany("questions")
    return web


def value_forms(saying, names):
    """The tuple of the value forms of a saying for a tuple of names, in ascending order."""
    check_names(unknowns_of((saying,)), names)
    check_bound((saying,))
    return tuple(sorted(Gathering(names).forms_of(saying)))


def web_of(sayings):
    """The web of a tuple of sayings, in ascending order."""
    check_bound(sayings)
    return common_web(sayings)


def corners_of(sayings):
    """The tuple of all corners of a tuple of sayings, in ascending order."""
    return corner_points(web_in_bound(sayings), len(unknowns_of(sayings)))


def corner_chain(sayings):
    """The least common multiple of the denominators of all corners of a tuple of sayings."""
    common = 1
    for point in corners_of(sayings):
        common = lcm(common, denominator_of(point))
    return common


def first_difference(first, second):
    """The first corner at which two sayings have different values; None if there is none."""
    names = unknowns_of((first, second))
    for point in corners_of((first, second)):
        if value_at(first, names, point) != value_at(second, names, point):
            return point
    return None


def extremes(saying):
    """The least and the greatest value of a saying."""
    names = unknowns_of((saying,))
    values = [value_at(saying, names, point) for point in corners_of((saying,))]
    least = values[0]
    greatest = values[0]
    for value in values:
        if compared(value, least) < 0:
            least = value
        if compared(value, greatest) > 0:
            greatest = value
    return least, greatest
