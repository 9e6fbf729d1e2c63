"""Going along sayings with forms, from question to question."""

from halftruths.cells import least_on
from halftruths.forms import form_at, opposite
from halftruths.questions import form_by_side, leaf_form, not_form, question_of
from halftruths.sayings import MARKS, parts_of


def steps_of(saying, names):
    """The words of a saying, parts first: the form of a word without parts, the mark or `not` of another one."""
    steps = []
    waiting = [saying]
    while waiting:
        word = waiting.pop()
        parts = parts_of(word)
        steps.append(word[0] if parts else leaf_form(names, word))
        waiting.extend(parts)
    # A word was put before its parts, and the second part before the first one.
    return steps[::-1]


class Walk:
    """A place in going along sayings: at a question, or at the end.

    waiting has the forms of the words that no mark has taken yet, so at the end those of the sayings.
    """

    def __init__(self, steps, at, waiting, path):
        forms = list(waiting)
        while at < len(steps) and steps[at] not in MARKS:
            if steps[at] == "not":
                forms[-1] = not_form(forms[-1])
            else:
                forms.append(steps[at])
            at += 1
        self.steps = steps
        self.at = at
        self.waiting = tuple(forms)
        self.path = path

    def question(self):
        """The question that is asked here; None at the end."""
        if self.at == len(self.steps):
            return None
        return question_of(self.steps[self.at], self.waiting[-2], self.waiting[-1])

    def taken(self, side, path):
        """The walk that goes on from this question by a side, with a path."""
        form = form_by_side(self.steps[self.at], side, self.waiting[-2], self.waiting[-1])
        return Walk(self.steps, self.at + 1, self.waiting[:-2] + (form,), path)

    def branches(self):
        """The pair of the walks for the two sides of this question, each with it put at the end of the path."""
        question = self.question()
        first = self.taken("least", self.path + (question,))
        return first, self.taken("most", self.path + (opposite(question),))


def walk_along(sayings, names):
    """The walk that begins with the empty path to go along a tuple of sayings."""
    steps = []
    for saying in sayings:
        steps.extend(steps_of(saying, names))
    return Walk(steps, 0, (), ())


def decided(path, question):
    """(side, k, multiples) for a question that does not change sign in the cell of a path, which is not empty.

    None if it changes sign there.
    """
    for side, form in (("least", question), ("most", opposite(question))):
        point, k, multiples = least_on(path, form)
        if form_at(form, point)[0] >= 0:
            return side, k, multiples
    return None


def ends_of(walk):
    """The list of the walks at the ends of the branches of the tree that goes on from a walk."""
    while walk.question() is not None:
        found = decided(walk.path, walk.question())
        if found is None:
            first, second = walk.branches()
            return ends_of(first) + ends_of(second)
        walk = walk.taken(found[0], walk.path)
    return [walk]
