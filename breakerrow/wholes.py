"""Whole numbers: which values are integers, and how they are rounded up."""


def is_integer(value):
    """Return whether a value is an integer; True and False are none."""
    return isinstance(value, int) and not isinstance(value, bool)


def is_at_least(value, least):
    """Return whether a value is an integer from a least one on."""
    return is_integer(value) and value >= least


def is_within(value, least, most):
    """Return whether a value is an integer from a least one to a greatest one."""
    return is_integer(value) and least <= value <= most


def steps_to(distance, step):
    """Return how many steps reach a distance or more, at least 0."""
    return max(0, -(-distance // step))


def rounded_up(value, unit):
    """Return the least multiple of a unit, not below 0, that is at least a value."""
    return steps_to(value, unit) * unit


def count_below(numbers, bound):
    """Return how many of some ascending numbers are below a bound."""
    low = 0
    high = len(numbers)
    while low < high:
        middle = (low + high) // 2
        if numbers[middle] < bound:
            low = middle + 1
        else:
            high = middle
    return low


def common_divisor(one, other):
    """Return the greatest common divisor of an integer from 1 on and one from 0 on."""
    divisor, rest = one, other
    while rest > 0:
        divisor, rest = rest, divisor % rest
    return divisor


def divisor_and_factor(one, other):
    """Return the greatest common divisor of two integers from 1 on, and a factor for the first one.

    The factor times `one` leaves the same rest modulo `other` as the divisor.
    """
    divisor, rest = one, other
    factor, next_factor = 1, 0
    while rest > 0:
        quotient, next_rest = divmod(divisor, rest)
        divisor, rest = rest, next_rest
        factor, next_factor = next_factor, factor - quotient * next_factor
    return divisor, factor
