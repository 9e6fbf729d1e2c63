"""One checker for all questions that have certificates."""

from halftruths.chaintrees import chain_certificate, chain_holds, chain_parting, chain_valid
from halftruths.follow import follow_certificate, is_follow_certificate, least_uses
from halftruths.grades import ONE, grade_in, is_grade
from halftruths.groups import above_numbers, is_never_above, never_above, shows_never_above
from halftruths.kinds import are_whole, is_whole
from halftruths.likeness import are_alike, is_likeness, is_parting, likeness, parting
from halftruths.productfollows import is_product_derivation, product_derivation, product_gap, product_use
from halftruths.products import GREATEST_LENGTH, length_of
from halftruths.productvalid import is_product_valid, is_product_validity, product_parting, product_validity
from halftruths.sayings import unknowns_of
from halftruths.terms import row_of, term_unknowns
from halftruths.validity import below_one, is_valid, is_validity, validity
from halftruths.values import is_point, value_at

GREATEST_NUMBER = 1000000


def answer_to(question):
    """The answer to a question."""
    # A question about one saying has it as its first and as its last part.
    kind, first, second = question[0], question[1], question[-1]
    if kind == "valid":
        return is_valid(first)
    if kind == "alike":
        return are_alike(first, second)
    if kind == "follows":
        return least_uses(first, second) is not None
    if kind == "product valid":
        return is_product_valid(first)
    if kind == "product follows":
        return product_use(first, second) is not None
    if kind == "chain valid":
        return chain_valid(first)
    return is_never_above(first, second)


def certified(question):
    """The pair of the answer to a question and of a certificate for it."""
    answer = answer_to(question)
    return answer, certificate_for(question) if answer else counter_for(question)


def certificate_for(question):
    """A certificate for a question with the answer True."""
    kind, first, second = question[0], question[1], question[-1]
    if kind == "valid":
        return validity(first)
    if kind == "alike":
        return likeness(first, second)
    if kind == "follows":
        return follow_certificate(first, second)
    if kind == "product valid":
        return product_validity(first)
    if kind == "product follows":
        return product_derivation(first, second)
    if kind == "chain valid":
        return chain_certificate(first)
    return never_above(first, second)


def counter_for(question):
    """A certificate for a question with the answer False."""
    kind, first, second = question[0], question[1], question[-1]
    if kind == "valid":
        return below_one(first)
    if kind == "alike":
        return parting(first, second)
    if kind == "follows":
        return follow_certificate(first, second)
    if kind == "product valid":
        return product_parting(first, ("yes",))
    if kind == "product follows":
        return product_gap(first, second)
    if kind == "chain valid":
        return chain_parting(first)
    return above_numbers(first, second)


def is_certified(question, answer, certificate):
    """Whether an answer to a question is right, and a value is a certificate for it."""
    if answer_to(question) != answer:
        return False
    return is_certificate(question, certificate) if answer else is_counter(question, certificate)


def is_certificate(question, value):
    """Whether a value is a certificate for a question with the answer True."""
    kind, first, second = question[0], question[1], question[-1]
    if kind == "valid":
        return is_validity(first, value)
    if kind == "alike":
        return is_likeness(first, second, value)
    if kind == "follows":
        return is_follow_certificate(first, second, value)
    if kind == "product valid":
        return is_product_validity(first, value)
    if kind == "product follows":
        return is_product_derivation(first, second, value)
    if kind == "chain valid":
        return chain_holds(first, value)
    return shows_never_above(first, second, value)


def is_counter(question, value):
    """Whether a value is a certificate for a question with the answer False."""
    kind, first, second = question[0], question[1], question[-1]
    if kind == "valid":
        names = unknowns_of((first,))
        return is_point(value, len(names)) and value_at(first, names, value) != (1, 1)
    if kind == "alike":
        return is_parting(first, second, value)
    if kind == "follows":
        return is_follow_certificate(first, second, value)
    if kind == "product valid":
        return is_gap(("yes",), first, unknowns_of((first,)), value)
    if kind == "product follows":
        return is_gap(first, second, unknowns_of((first, second)), value)
    if kind == "chain valid":
        return are_low_grades(first, value)
    return are_above_numbers(first, second, value)


def is_gap(first, second, names, value):
    """Whether a value is lengths for the names at which the first saying has the grade 1 and the second one not."""
    if not isinstance(value, tuple) or len(value) != len(names):
        return False
    if not all([length is None or (is_whole(length) and 0 <= length <= GREATEST_LENGTH) for length in value]):
        return False
    lengths = {name: length for name, length in zip(names, value)}
    return length_of(first, lengths) == 0 and length_of(second, lengths) != 0


def are_low_grades(saying, value):
    """Whether a value is grades, in one more pieces `sum` than unknowns, at which a saying is not at the top."""
    names = unknowns_of((saying,))
    pieces = len(names) + 1
    if not isinstance(value, tuple) or len(value) != len(names):
        return False
    if not all([is_grade(grade, pieces) for grade in value]):
        return False
    return grade_in(saying, ("sum",) * pieces, {name: grade for name, grade in zip(names, value)}) != ONE


def are_above_numbers(first, second, value):
    """Whether a value is (numbers, unit) for which the first term is greater than the second one."""
    names = term_unknowns((first, second))
    if not isinstance(value, tuple) or len(value) != 2:
        return False
    numbers, unit = value
    if not are_whole(numbers, len(names)) or not is_whole(unit) or not 0 <= unit <= GREATEST_NUMBER:
        return False
    if max([abs(number) for number in numbers], default=0) > GREATEST_NUMBER:
        return False
    rows = {name: (number,) for name, number in zip(names, numbers)}
    return row_of(first, rows, (unit,)) > row_of(second, rows, (unit,))
