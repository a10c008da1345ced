"""The best rules for a flag, and the best checks for a rule."""

from unseenflips.checks import Check
from unseenflips.clean import is_clean
from unseenflips.costs import rate
from unseenflips.rules import rules_of_one
from unseenflips.unseen import first_unseen
from unseenflips.values import is_less
from unseenflips.words import words_of


def clean_ones(flag, size):
    """All clean rules with this flag and one stuff, with a pattern of 1 to `size` bits."""
    return [rule for rule in rules_of_one(flag, size) if is_clean(rule)]


def clean_rules(flag, size):
    """The texts of all clean rules with this flag and one stuff, with a pattern of 1 to `size` bits."""
    return tuple(sorted([str(rule) for rule in clean_ones(flag, size)]))


def cheapest(flag, size):
    """The texts of those clean rules that have the least rate."""
    least = None
    found = []
    for rule in clean_ones(flag, size):
        cost = rate(rule)
        if least is None or is_less(cost, least):
            least = cost
            found = []
        if cost == least:
            found.append(str(rule))
    return tuple(sorted(found))


def polynomials(degree):
    """All polynomials of this degree, as words that begin and end with 1, ascending."""
    if degree == 0:
        return ["1"]
    return ["1" + middle + "1" for middle in words_of(degree - 1)]


def best_checks(rule, degree, kinds, hits, how):
    """The polynomials of this degree with which the least size of data with unseen hits is greatest."""
    sizes = [(poly, first_unseen(rule, Check(poly), kinds, hits, how)) for poly in polynomials(degree)]
    known = [size for poly, size in sizes]
    greatest = None if None in known else max(known)
    return tuple([poly for poly, size in sizes if size == greatest])
