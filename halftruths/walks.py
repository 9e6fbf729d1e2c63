"""Going along sayings with forms, from question to question."""

from halftruths.cells import are_multiples, least_on, sum_of
from halftruths.forms import constant, form_at, is_constant, less, opposite, scaled, summed
from halftruths.kinds import is_whole
from halftruths.questions import form_by_side, leaf_form, not_form, question_of
from halftruths.sayings import MARKS, parts_of


def words_parts_first(saying):
    """The list of the words of a saying, each one behind its parts, the first part whole before the second one."""
    found = []
    waiting = [saying]
    while waiting:
        word = waiting.pop()
        found.append(word)
        waiting.extend(parts_of(word))
    # A word was put before its parts, and the second part before the first one.
    return found[::-1]


def steps_of(saying, names):
    """The words of a saying, parts first: the form of a word without parts, the mark or `not` of another one."""
    return [word[0] if parts_of(word) else leaf_form(names, word) for word in words_parts_first(saying)]


class Walk:
    """A place in going along sayings: at a question, or at the end.

    waiting has the forms of the words that no mark has taken yet, so at the end those of the sayings.
    """

    def __init__(self, steps, at, waiting, path):
        self.steps = steps
        self.at = at
        self.waiting = waiting
        self.path = path
        self.go_on()

    def go_on(self):
        """Takes steps up to the next question or to the end."""
        forms = list(self.waiting)
        while self.at < len(self.steps) and self.steps[self.at] not in MARKS:
            if self.steps[self.at] == "not":
                forms[-1] = not_form(forms[-1])
            else:
                forms.append(self.steps[self.at])
            self.at += 1
        self.waiting = tuple(forms)

    def question(self):
        """The question that is asked here; None at the end."""
        if self.at == len(self.steps):
            return None
        return question_of(self.steps[self.at], self.waiting[-2], self.waiting[-1])

    def taken(self, side, path):
        """The walk that goes on from this question by a side, with a path."""
        form = form_by_side(self.steps[self.at], side, self.waiting[-2], self.waiting[-1])
        return Walk(self.steps, self.at + 1, self.waiting[:-2] + (form,), path)

    def branches(self):
        """The pair of the walks for the two sides of this question, each with it put at the end of the path."""
        question = self.question()
        first = self.taken("least", self.path + (question,))
        return first, self.taken("most", self.path + (opposite(question),))

    def decided(self):
        """(side, k, multiples) for this question, if it does not change sign in the cell, which is not empty.

        None if it changes sign there.
        """
        for side, form in (("least", self.question()), ("most", opposite(self.question()))):
            shown = self.shown(form)
            if shown is not None:
                return (side,) + shown
        return None

    def shown(self, form):
        """(k, multiples) that show that a form is at least 0 in the cell; None if it is below 0 somewhere."""
        point, k, multiples = least_on(self.path, form)
        return None if form_at(form, point)[0] < 0 else (k, multiples)

    def is_shown(self, form, k, multiples):
        """Whether k times a form, less the sum of the multiples, is a number from 0 on."""
        count = len(form) - 1
        if not is_whole(k) or k < 1 or not are_multiples(multiples, self.path, count):
            return False
        rest = less(scaled(form, k), sum_of(self.path, count, multiples))
        return is_constant(rest) and rest[0] >= 0

    def is_shown_empty(self, multiples, count):
        """Whether the multiples, for so many unknowns, show that the cell is empty."""
        if not are_multiples(multiples, self.path, count):
            return False
        total = sum_of(self.path, count, multiples)
        return is_constant(total) and total[0] < 0

    def goal_form(self, goal):
        """At the end, the form of a goal: a number, then one for each saying."""
        one = constant(1, len(self.waiting[0]) - 1)
        return summed((one,) + self.waiting, goal)


def walk_along(sayings, names):
    """The walk that begins with the empty path to go along a tuple of sayings."""
    steps = []
    for saying in sayings:
        steps.extend(steps_of(saying, names))
    return Walk(steps, 0, (), ())


def ends_of(walk):
    """The list of the walks at the ends of the branches of the tree that goes on from a walk."""
    while walk.question() is not None:
        found = walk.decided()
        if found is None:
            first, second = walk.branches()
            return ends_of(first) + ends_of(second)
        walk = walk.taken(found[0], walk.path)
    return [walk]
