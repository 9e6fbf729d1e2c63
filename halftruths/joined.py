"""Many sayings or terms put together by one mark or sign, no deeper than needed."""


def joined(mark, words):
    """The words of a list, at least one, put together by a mark or a sign."""
    if len(words) == 1:
        return words[0]
    half = len(words) // 2
    return (mark, joined(mark, words[:half]), joined(mark, words[half:]))
