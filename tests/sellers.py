"""Sellers of SETUP in a given state, and what a test says of them."""

import unittest

from manydoors.seller import Seller
from tests.samples import SETUP, cells_of

# Of SETUP, with 15 percent of each price, rounded down.
SMALL = ((0, 0, 1),)  # 10, of which 1 is kept
LONG = ((0, 0, 3),)  # 10 + 20 + 33, of which 1 + 3 + 4 are kept
LATER = ((0, 1, 4),)  # 20 + 33 + 0, of which 3 + 4 + 0 are kept
MIXED = ((0, 0, 2), (0, 1, 3), (1, 3, 4))  # 30 + 53 + 99, of which 4 + 7 + 14 are kept


def seller_with(free):
    """Return a seller of SETUP that has been given these nights."""
    seller = Seller(SETUP, 0)
    for (kind, night), count in free.items():
        for _ in range(count):
            seller.handle(("give", kind, night))
    return seller


def seller_with_voucher(party, more=()):
    """Return a seller that has sold the party as its deed 0, and has these free nights left."""
    seller = seller_with({cell: list(more).count(cell) for cell in more})
    for kind, first, end in party:
        for night in range(first, end):
            seller.handle(("give", kind, night))
    seller.ask(("wish", party))
    seller.bodies()
    seller.answers()
    return seller


class SellerCase(unittest.TestCase):
    def assert_free(self, seller, expected):
        """The seller has these free nights, and 0 in each other cell of the inn."""
        self.assertEqual(seller.free, {cell: expected.get(cell, 0) for cell in cells_of(SETUP)})

    def assert_sent(self, seller, bodies, answers):
        self.assertEqual(seller.bodies(), bodies)
        self.assertEqual(seller.answers(), answers)
