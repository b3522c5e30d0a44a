"""Bases, and the residues of a base."""

from barswoven.errors import NoInverse

BASES = (
    2, 3, 5, 7, 11, 13, 17, 19, 23, 29, 31, 37, 41, 43, 47, 53, 59, 61, 67, 71, 73, 79, 83, 89, 97,
)


def is_base(number):
    """True if the number is a prime from 2 to 97, otherwise False."""
    return number in BASES


def inverse_of(value, *, base):
    """The residue whose product with the value is 1."""
    # Euclid's steps: right stays the product of the value and factor, modulo the base.
    left, right = base, value % base
    before, factor = 0, 1
    while right > 1:
        share = left // right
        left, right = right, left - share * right
        before, factor = factor, before - share * factor
    if right == 0:
        raise NoInverse("zero has no inverse")
    return factor % base


def dot(first, second, *, base):
    """The sum of the products of the entries of two vectors of equal length."""
    return sum([one * other for one, other in zip(first, second)]) % base
