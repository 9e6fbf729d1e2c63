"""Going along terms for a choice of signs of their unknowns, with size forms."""

from halftruths.conewalks import ConeWalk
from halftruths.forms import added, constant, opposite
from halftruths.sayings import parts_of
from halftruths.terms import ASKING
from halftruths.walks import words_parts_first


def leaf_sizes(word, names, signs):
    """The size form of an unknown, `nil` or `unit` for a choice of signs of the names."""
    if word[0] == "unknown":
        return (0,) + tuple([sign if name == word[1] else 0 for name, sign in zip(names, signs)])
    return constant(1 if word[0] == "unit" else 0, len(names))


class TermWalk(ConeWalk):
    """A place in going along terms for a choice of signs."""

    def go_on(self):
        """Takes steps up to the next question or to the end."""
        forms = list(self.waiting)
        while self.at < len(self.steps) and self.steps[self.at] not in ASKING:
            step = self.steps[self.at]
            if step == "minus":
                forms[-1] = opposite(forms[-1])
            elif step == "sum":
                second = forms.pop()
                forms[-1] = added(forms[-1], second)
            else:
                forms.append(step)
            self.at += 1
        self.waiting = tuple(forms)

    def taken(self, side, path):
        """The walk that goes on from this question by a side, with a path."""
        first, second = self.waiting[-2:]
        # On the side `least` the second form is the lesser one.
        taken_first = (self.steps[self.at] == "greater") == (side == "least")
        form = first if taken_first else second
        return TermWalk(self.steps, self.at + 1, self.waiting[:-2] + (form,), path, self.places)


def walk_with_signs(terms, names, signs):
    """The walk that begins with the empty path to go along a tuple of terms for a choice of signs of the names."""
    steps = []
    for term in terms:
        words = words_parts_first(term)
        steps.extend([word[0] if parts_of(word) else leaf_sizes(word, names, signs) for word in words])
    return TermWalk(steps, 0, (), (), tuple(list(range(len(names) + 1))))


def sign_choices(count):
    """The tuple of the choices of signs for so many unknowns, in ascending order."""
    found = [()]
    for _ in range(count):
        found = [signs + (sign,) for signs in found for sign in (-1, 1)]
    return tuple(found)
