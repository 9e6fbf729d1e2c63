"""Questions of marks, and the forms that marks take by the side."""

from halftruths.errors import UnknownName, WrongMark
from halftruths.forms import added, constant, less, one_less, unit
from halftruths.sayings import MARKS

SIDES = ("least", "most")


def name_form(names, name):
    """The form of an unknown for a tuple of names."""
    if name not in names:
        raise UnknownName(name)
    return unit(names.index(name), len(names))


def leaf_form(names, word):
    """The form of an unknown, `yes` or `no` for a tuple of names."""
    if word[0] == "unknown":
        return name_form(names, word[1])
    return constant(1 if word[0] == "yes" else 0, len(names))


def not_form(form):
    """The form 1 - form."""
    return one_less(form)


def question_of(mark, first, second):
    """The question of a mark whose parts have two forms."""
    if mark not in MARKS:
        raise WrongMark(mark)
    if mark == "plus" or mark == "times":
        return less(added(first, second), constant(1, len(first) - 1))
    return less(first, second)


def form_by_side(mark, side, first, second):
    """The form that a mark takes on a side of its question."""
    question = question_of(mark, first, second)
    if side not in SIDES:
        raise WrongMark(side)
    if side == "least":
        return _least_form(mark, question, first, second)
    return _most_form(mark, question, first, second)


def _least_form(mark, question, first, second):
    if mark == "plus":
        return constant(1, len(first) - 1)
    if mark == "times":
        return question
    if mark == "and":
        return second
    if mark == "or":
        return first
    return one_less(question)


def _most_form(mark, question, first, second):
    count = len(first) - 1
    if mark == "plus":
        return added(first, second)
    if mark == "times":
        return constant(0, count)
    if mark == "leads":
        return constant(1, count)
    if mark == "and":
        return first
    if mark == "or":
        return second
    return added(constant(1, count), question)
