"""Sayings: their names, words, marks and unknowns.

What goes by parts alone (words, depth, unknowns) serves for terms as well.
"""

from halftruths.errors import TooGreat

MARKS = ("plus", "times", "leads", "and", "or", "same")
NO_NAMES = ("yes", "no", "not", "plus", "times", "leads", "and", "or", "same")
LETTERS = "abcdefghijklmnopqrstuvwxyz"
LETTERS_AND_DIGITS = "abcdefghijklmnopqrstuvwxyz0123456789"
MOST_LETTERS = 8
MOST_WORDS = 1000
MOST_DEPTH = 60


def is_name(value):
    """Whether a value is a name."""
    if not isinstance(value, str) or not 1 <= len(value) <= MOST_LETTERS or value in NO_NAMES:
        return False
    return value[0] in LETTERS and all([sign in LETTERS_AND_DIGITS for sign in value])


def parts_of(word):
    """What stands directly in a word of a saying or a term, or in a row of a ladder, in its order."""
    return () if word[0] == "unknown" else word[1:]


def is_word(value):
    """Whether a value is built like one word, whatever its parts are."""
    if not isinstance(value, tuple):
        return False
    if len(value) == 1:
        return value[0] == "yes" or value[0] == "no"
    if len(value) == 2:
        return value[0] == "not" or (value[0] == "unknown" and is_name(value[1]))
    return len(value) == 3 and value[0] in MARKS


def is_saying(value):
    """Whether a value is a saying."""
    return is_built(value, is_word)


def is_built(value, fits):
    """Whether a value is built of words that all fit, within the greatest number of words and depth."""
    count = 0
    waiting = [(value, 0)]
    while waiting:
        word, depth = waiting.pop()
        count += 1
        # Counting while going along ends early, also where equal parts are shared many times.
        if count > MOST_WORDS or depth > MOST_DEPTH or not fits(word):
            return False
        for part in parts_of(word):
            waiting.append((part, depth + 1))
    return True


def all_words(saying):
    """The list of the words of a saying, in writing order."""
    found = []
    waiting = [saying]
    while waiting:
        word = waiting.pop()
        found.append(word)
        waiting.extend(parts_of(word)[::-1])
    return found


def words_in(saying):
    """How many words a saying has."""
    return len(all_words(saying))


def depth_of(saying):
    """The depth of a saying."""
    greatest = 0
    waiting = [(saying, 0)]
    while waiting:
        word, depth = waiting.pop()
        greatest = max(greatest, depth)
        for part in parts_of(word):
            waiting.append((part, depth + 1))
    return greatest


def marks_in(saying):
    """How many marks stand in a saying."""
    return len([word for word in all_words(saying) if word[0] in MARKS])


def unknowns_of(sayings):
    """The unknowns of a tuple of sayings, in the order in which they first occur."""
    found = {}
    for saying in sayings:
        for word in all_words(saying):
            if word[0] == "unknown":
                found[word[1]] = True
    return tuple(list(found))


def occurrences(saying, name):
    """How often an unknown stands in a saying."""
    return len([word for word in all_words(saying) if word[0] == "unknown" and word[1] == name])


def put_for(saying, name, other):
    """The saying with another one in the place of each occurrence of an unknown."""
    times = occurrences(saying, name)
    if times == 0:
        return saying
    if words_in(saying) + times * (words_in(other) - 1) > MOST_WORDS:
        raise TooGreat("words")
    changed = _changed(saying, name, other)
    if depth_of(changed) > MOST_DEPTH:
        raise TooGreat("depth")
    return changed


def _changed(saying, name, other):
    if saying[0] == "unknown":
        return other if saying[1] == name else saying
    parts = tuple([_changed(part, name, other) for part in parts_of(saying)])
    return (saying[0],) + parts


def used_times(saying, count):
    """The saying used so many times, a number from 0 on."""
    if count == 0:
        return ("yes",)
    if count == 1:
        return saying
    if count * words_in(saying) + count - 1 > MOST_WORDS:
        raise TooGreat("words")
    if depth_of(saying) + count - 1 > MOST_DEPTH:
        raise TooGreat("depth")
    used = saying
    for _ in range(count - 1):
        used = ("times", saying, used)
    return used
