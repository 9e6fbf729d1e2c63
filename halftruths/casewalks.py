"""Going along sayings in a case: with length forms, or nothing where the grade by products is 0."""

from halftruths.conewalks import ConeWalk, numbers_along
from halftruths.forms import added, less
from halftruths.sayings import MARKS, parts_of
from halftruths.walks import words_parts_first


def case_steps(saying, names, case):
    """The words of a saying, parts first: the length form or nothing of a word without parts, the mark or `not`."""
    return [word[0] if parts_of(word) else leaf_length(word, names, case) for word in words_parts_first(saying)]


def leaf_length(word, names, case):
    """The length form in a case of an unknown, `yes` or `no`; None for nothing."""
    if word[0] == "yes":
        return (0,) * len(case)
    if word[0] == "no" or not case[names.index(word[1])]:
        return None
    return tuple([1 if name == word[1] else 0 for name in names])


class CaseWalk(ConeWalk):
    """A place in going along sayings in a case; in waiting, None stands for nothing."""

    def __init__(self, steps, at, waiting, path, case):
        self.case = case
        super().__init__(steps, at, waiting, path, tuple([place for place, entry in enumerate(case) if entry]))

    def go_on(self):
        """Takes steps up to the next question or to the end."""
        forms = list(self.waiting)
        zero = (0,) * len(self.case)
        while self.at < len(self.steps):
            step = self.steps[self.at]
            if step == "not":
                forms[-1] = zero if forms[-1] is None else None
            elif step not in MARKS:
                forms.append(step)
            elif step == "times" or forms[-2] is None or forms[-1] is None:
                second = forms.pop()
                forms[-1] = unasked(step, forms[-1], second, zero)
            else:
                break
            self.at += 1
        self.waiting = tuple(forms)

    def taken(self, side, path):
        """The walk that goes on from this question by a side, with a path."""
        first, second = self.waiting[-2:]
        form = length_by_side(self.steps[self.at], side, first, second)
        return CaseWalk(self.steps, self.at + 1, self.waiting[:-2] + (form,), path, self.case)

    def lengths_along(self, point):
        """Lengths of the case in the direction of a point for its positive unknowns."""
        numbers = numbers_along(point)
        lengths = {place: number for place, number in zip(self.places, numbers)}
        return tuple([lengths.get(place) for place in range(len(self.case))])


def no_lengths(case):
    """The lengths of a case at which each positive unknown is 1."""
    return tuple([0 if entry else None for entry in case])


def length_at(form, lengths):
    """What a length form is at lengths."""
    return sum([number * length for number, length in zip(form, lengths) if length is not None])


def unasked(mark, first, second, zero):
    """What a mark gets that asks nothing: `times`, or one with a part that has nothing."""
    if mark == "or":
        return second if first is None else first
    if mark == "leads":
        return zero if first is None else None
    if mark == "same":
        return zero if first is None and second is None else None
    return None if first is None or second is None else added(first, second)


def length_by_side(mark, side, first, second):
    """The length form that a mark takes on the side `least` or `most` of its question, the first form less the second.

    `and` is the lesser grade, so the greater length.
    """
    if mark == "and":
        return first if side == "least" else second
    if mark == "or":
        return second if side == "least" else first
    if side == "most":
        return less(second, first)
    return less(first, second) if mark == "same" else less(first, first)


def walk_in_case(sayings, names, case):
    """The walk that begins with the empty path to go along a tuple of sayings in a case of the names."""
    steps = []
    for saying in sayings:
        steps.extend(case_steps(saying, names, case))
    return CaseWalk(steps, 0, (), (), case)
