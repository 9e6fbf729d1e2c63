"""Cones: where all forms of a path, without numbers that stand alone, are at least 0; and going along with them."""

from halftruths.cells import least_on
from halftruths.forms import form_at, less, scaled, summed
from halftruths.kinds import is_whole
from halftruths.values import denominator_of
from halftruths.walks import Walk


def least_in_cone(path, form, places):
    """(point, k, multiples) for the least value of a form in that part of the cone of a path that lies in the cube.

    The cone is told by the numbers from 0 on at the places, and the forms have 0 at all other ones. If the form is
    at least 0 in the cone, k times it is the sum of the multiples: one for each form of the path and each place.
    """
    cut = [(0,) + tuple([each[place] for place in places]) for each in path]
    point, k, multiples = least_on(tuple(cut), (0,) + tuple([form[place] for place in places]))
    # The least value is 0 then, so no multiple of a face 1 - x is above 0; these stand behind those of the faces x.
    return point, k, multiples[:len(path)] + multiples[len(path)::2]


def numbers_along(point):
    """Integers from 0 on in the direction of a point: its values in parts of its denominator."""
    whole = denominator_of(point)
    return tuple([above * (whole // below) for above, below in point])


class ConeWalk(Walk):
    """A place in going along with forms without numbers that stand alone; the places are as in least_in_cone."""

    def __init__(self, steps, at, waiting, path, places):
        self.places = places
        super().__init__(steps, at, waiting, path)

    def question(self):
        """The question that is asked here; None at the end."""
        if self.at == len(self.steps):
            return None
        return less(self.waiting[-2], self.waiting[-1])

    def shown(self, form):
        """(k, multiples) that show that a form is at least 0 in the cone; None if it is below 0 somewhere."""
        point, k, multiples = least_in_cone(self.path, form, self.places)
        below = form_at((0,) + tuple([form[place] for place in self.places]), point)[0] < 0
        return None if below else (k, multiples)

    def is_shown(self, form, k, multiples):
        """Whether k times a form is the sum of the multiples."""
        if not is_whole(k) or k < 1 or not isinstance(multiples, tuple):
            return False
        if len(multiples) != len(self.path) + len(self.places):
            return False
        if not all([is_whole(number) and number >= 0 for number in multiples]):
            return False
        units = [tuple([1 if at == place else 0 for at in range(len(form))]) for place in self.places]
        zero = (0,) * len(form)
        return scaled(form, k) == summed((zero,) + self.path + tuple(units), (0,) + multiples)

    def is_shown_empty(self, multiples, count):
        """A cone is never empty: all numbers may be 0."""
        return False

    def goal_form(self, goal):
        """At the end, the form of a goal: a number for each saying. None if nothing stands there for one of them."""
        return None if None in self.waiting else summed(self.waiting, goal)
