"""Going along a saying in a placement: each of its unknowns lies in a piece of a chain of chains, or is at the top.

A result is ("one",) or ("in", k, F) with the number of a piece and a form. What a mark gets is a result or
("ask", Q, yes, no): it hangs on whether the form Q is at least 0, and yes and no are again one of these.
"""

from halftruths.conditions import first_conditions, is_kept, kept_by
from halftruths.forms import added, constant, is_constant, less, one_less, opposite
from halftruths.grades import ONE
from halftruths.questions import name_form
from halftruths.sayings import parts_of
from halftruths.walks import words_parts_first


def leaf_result(word, names, kind):
    """The result of an unknown, `yes` or `no` in a placement of the names."""
    if word[0] == "unknown":
        level = kind[names.index(word[1])]
        return ONE if level > len(names) else ("in", level, name_form(names, word[1]))
    return ONE if word[0] == "yes" else ("in", 0, constant(0, len(names)))


def outcome(mark, first, second):
    """What a mark gets whose parts have two results."""
    if first != ONE and second != ONE and first[1] == second[1]:
        return asked(mark, first[1], first[2], second[2])
    first_less = first != ONE and (second == ONE or first[1] < second[1])
    lesser, greater = (first, second) if first_less else (second, first)
    if mark == "or":
        return greater
    if (mark == "leads" and first_less) or (mark in ("leads", "same") and lesser == ONE):
        return ONE
    return lesser


def asked(mark, piece, first, second):
    """What a mark gets whose parts lie in one piece with two forms."""
    top = constant(1, len(first) - 1)
    difference = less(second, first)
    ahead = ("in", piece, added(top, difference))
    if mark == "times":
        question = less(added(first, second), top)
        return ("ask", question, ("in", piece, question), ("in", piece, constant(0, len(first) - 1)))
    if mark == "and":
        return ("ask", difference, ("in", piece, first), ("in", piece, second))
    if mark == "or":
        return ("ask", difference, ("in", piece, second), ("in", piece, first))
    if mark == "leads":
        return ("ask", difference, ONE, ahead)
    return ("ask", difference, ("ask", opposite(difference), ONE, ("in", piece, less(top, difference))), ahead)


def outcome_of_not(result, count):
    """What `not` gets whose part has a result, for so many unknowns."""
    if result == ONE or result[1] != 0:
        return ("in", 0, constant(0, count))
    return ("ask", opposite(result[2]), ONE, ("in", 0, one_less(result[2])))


def settled(found):
    """What is left of an outcome when its questions that hang on no unknown have been answered."""
    while found[0] == "ask" and is_constant(found[1]):
        found = found[2] if found[1][0] >= 0 else found[3]
    return found


class ChainWalk:
    """A place in going along a saying in a placement: at a question, or at the end.

    waiting has the results of the words that no mark has taken yet; its last one may be a question that is asked.
    """

    def __init__(self, steps, at, waiting, conditions, places):
        self.steps = steps
        self.at = at
        self.waiting = waiting
        self.conditions = conditions
        self.places = places
        self.go_on()

    def go_on(self):
        """Takes steps up to the next question or to the end."""
        results = list(self.waiting)
        while self.at < len(self.steps) and not (results and results[-1][0] == "ask"):
            step = self.steps[self.at]
            if step == "not":
                results[-1] = settled(outcome_of_not(results[-1], len(self.conditions[0][0]) - 1))
            elif isinstance(step, tuple):
                results.append(step)
            else:
                second = results.pop()
                results[-1] = settled(outcome(step, results[-1], second))
            self.at += 1
        self.waiting = tuple(results)

    def question(self):
        """The form of which it is asked here whether it is at least 0; None at the end."""
        return self.waiting[-1][1] if self.waiting[-1][0] == "ask" else None

    def is_one(self):
        """At the end, whether the result of the saying is the top."""
        return self.waiting[-1] == ONE

    def answered(self, yes):
        """The walk that goes on when this question is answered by yes or by no, with its condition."""
        _, question, first, second = self.waiting[-1]
        condition = (question, False) if yes else (opposite(question), True)
        left = self.waiting[:-1] + (settled(first if yes else second),)
        return ChainWalk(self.steps, self.at, left, self.conditions + (condition,), self.places)

    def answers(self, point):
        """The list of (walk, point, multiples) for yes and no, the point keeping the conditions of this walk.

        If values keep those of the branch, they are its point; otherwise the multiples show that none do.
        """
        found = []
        for walk in (self.answered(True), self.answered(False)):
            if is_kept(walk.conditions[-1], point):
                found.append((walk, point, None))
            else:
                found.append((walk,) + kept_by(walk.conditions, self.places))
        return found


def walk_in_placement(saying, names, kind):
    """The walk that begins to go along a saying in a placement of the names, an order type."""
    words = words_parts_first(saying)
    steps = [word[0] if parts_of(word) else leaf_result(word, names, kind) for word in words]
    places = [place for place, level in enumerate(kind) if level <= len(names)]
    return ChainWalk(steps, 0, (), first_conditions(len(names), places), places)


def first_values(names):
    """Values that keep the conditions of every walk that begins."""
    return ((0, 1),) * len(names)


def values_with(walk, point, wanted):
    """Values at which a walk ends with the top, or not, as wanted; None if there are none. The point keeps all."""
    if walk.question() is None:
        return point if walk.is_one() == wanted else None
    for branch, values, _ in walk.answers(point):
        found = None if values is None else values_with(branch, values, wanted)
        if found is not None:
            return found
    return None


def tree_from(walk, point):
    """A tree that shows from a walk on that all ends with the top; None if not all does. The point keeps all."""
    if walk.question() is None:
        return ONE if walk.is_one() else None
    trees = []
    for branch, values, multiples in walk.answers(point):
        tree = ("empty", multiples) if values is None else tree_from(branch, values)
        if tree is None:
            return None
        trees.append(tree)
    return ("ask", trees[0], trees[1])
