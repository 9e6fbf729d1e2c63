"""What kind a value is, where any value may be passed."""


def is_whole(value):
    """Whether a value is an integer; True and False are none."""
    return isinstance(value, int) and not isinstance(value, bool)


def are_whole(value, size):
    """Whether a value is a tuple of so many integers."""
    return isinstance(value, tuple) and len(value) == size and all([is_whole(number) for number in value])
