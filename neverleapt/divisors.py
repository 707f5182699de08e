"""Divisors of integers, and what solves that a multiple has some rest."""

from math import gcd


def divisors(number):
    """The list of all divisors of an integer above 0."""
    found = [1]
    left = number
    prime = 2
    while left > 1:
        # What is left has no lesser prime: if it is none itself, one of its primes is at most its root.
        if prime * prime > left:
            prime = left
        many = 0
        while left % prime == 0:
            left //= prime
            many += 1
        found = _multiplied(found, prime, many)
        prime += 1
    return found


def _multiplied(found, prime, many):
    """The divisors with the prime none to many times."""
    power = 1
    longer = []
    for _ in range(many + 1):
        longer.extend([divisor * power for divisor in found])
        power *= prime
    return longer


def solved(factor, rest, step):
    """The pair (first, period) of all integers that, times the factor, have this rest by the step, or None."""
    shared = gcd(factor, step)
    if rest % shared:
        return None
    period = step // shared
    first = rest // shared * _inverse(factor // shared, period)
    return (first % period, period)


def _inverse(number, step):
    """The number that, times a number without a common divisor with the step, has the rest of 1 by it."""
    one, other = 1, 0
    left = step
    while left:
        many = number // left
        number, left = left, number - many * left
        one, other = other, one - many * other
    return one
