"""Which integers are sums of some integers, each taken any number of times, the first of them at least once."""

from math import gcd


class Sums:
    """The sums of some different integers from 1 on, the first of them, the key, taken at least once.

    least has for each rest, divided by the key, the least sum of the others alone that has it, None if there is
    none; last has what comes last in this sum.
    """

    def __init__(self, numbers):
        self.key = numbers[0]
        self.least = [0] + [None] * (self.key - 1)
        self.last = [None] * self.key
        for step in numbers[1:]:
            for start in range(gcd(self.key, step)):
                self.take(step, start)

    def take(self, step, start):
        """Takes a step any number of times, from each rest that is reached from a start by such steps."""
        rest = start
        # Twice around, so that the least sum of all these rests has been there before the second time.
        for _ in range(2 * (self.key // gcd(self.key, step))):
            here = self.least[rest]
            rest = (rest + step) % self.key
            if here is not None and (self.least[rest] is None or here + step < self.least[rest]):
                self.least[rest] = here + step
                self.last[rest] = step

    def has(self, number):
        """Whether a number from 1 on is one of the sums."""
        least = self.least[number % self.key]
        return least is not None and self.key + least <= number

    def times_in(self, number):
        """A dict that tells how often each integer is taken for a number that is one of the sums."""
        left = self.least[number % self.key]
        times = {self.key: (number - left) // self.key}
        while left > 0:
            step = self.last[left % self.key]
            times[step] = times.get(step, 0) + 1
            left -= step
        return times

    def full_from(self):
        """A number from which on all multiples of the greatest common divisor are among the sums."""
        return self.key + max([least for least in self.least if least is not None])


def common_divisor(numbers):
    """The greatest common divisor of some numbers, at least one."""
    common = 0
    for number in numbers:
        common = gcd(common, number)
    return common


def sums_pair(choices):
    """The pair (G, E) for the numbers that are sums, as in Sums, of one of some choices of integers.

    Each such number is a multiple of a member of G, and E has the other multiples.
    """
    commons = {choice: common_divisor(choice) for choice in sorted(choices)}
    divisors = sorted(list({commons[choice]: True for choice in commons}))
    basis = [number for at, number in enumerate(divisors) if all([number % other for other in divisors[:at]])]
    missing = {}
    for number in basis:
        for multiple in missing_multiples(number, [choice for choice in commons if commons[choice] == number], commons):
            missing[multiple] = True
    return tuple(basis), tuple(sorted(list(missing)))


def missing_multiples(number, full, choices):
    """The list of the multiples of a number that are no sums of one of some choices, in ascending order.

    All members of full have it as their greatest common divisor; so one of them has all great multiples.
    """
    sums = Sums(full[0])
    missing = [multiple for multiple in range(number, sums.full_from(), number) if not sums.has(multiple)]
    for choice in choices:
        # A sum is not less than its key; so sums of great integers need not be looked at.
        if missing and choice[0] <= missing[-1]:
            others = Sums(choice)
            missing = [multiple for multiple in missing if not others.has(multiple)]
    return missing
