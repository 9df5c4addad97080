"""Setups, and helpers that more than one test needs."""

from itertools import combinations_with_replacement

SETUP = ((2, 1), 4, 2, ((10, 20, 33, 0), (5, 7, 1000000, 99)), 15)
SMALLEST = ((0,), 1, 1, ((0,),), 0)
LARGEST = ((4, 4, 4), 12, 4, ((10**6,) * 12,) * 3, 100)


def stays_of(kinds, nights):
    """Return all stays of an inn, in ascending order."""
    return [
        (kind, first, end)
        for kind in range(kinds)
        for first in range(nights)
        for end in range(first + 1, nights + 1)
    ]


def cells_of(setup):
    """Return the set of all cells of an inn."""
    return {(kind, night) for kind in range(len(setup[0])) for night in range(setup[1])}


def parties_of(kinds, nights, most):
    """Return all parties of 1 to most stays of an inn."""
    stays = stays_of(kinds, nights)
    return [party for size in range(1, most + 1) for party in combinations_with_replacement(stays, size)]


def nights_of(stay):
    """Return the set of the cells that a stay needs, in the most plain way."""
    kind, first, end = stay
    return {(kind, night) for night in range(first, end)}
