"""Integers, and values: pairs (p, q) in lowest terms that stand for p / q."""

from math import gcd


def is_int(value):
    """Whether any value at all is an integer (a bool is none)."""
    return isinstance(value, int) and not isinstance(value, bool)


def is_value(value):
    """Whether any value at all is a pair of integers in lowest terms, the second one greater than 0."""
    if not isinstance(value, tuple) or len(value) != 2 or not is_int(value[0]) or not is_int(value[1]):
        return False
    return value[1] > 0 and gcd(value[0], value[1]) == 1


def lowest(over, under):
    """The value that stands for over / under; `under` is greater than 0."""
    common = gcd(over, under)
    return over // common, under // common


def is_less(one, other):
    """Whether a value is less than another one."""
    return one[0] * other[1] < other[0] * one[1]
