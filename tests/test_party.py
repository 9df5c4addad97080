"""Points 2 and 3: what a party needs, its price, and what the seller keeps of it."""

import unittest

from manydoors.inn import kept_of, needs_of, price_of
from tests.samples import LARGEST, SETUP, SMALLEST, nights_of, parties_of


class NeedsTest(unittest.TestCase):
    def test_a_stay_needs_the_nights_from_first_to_before_its_end(self):
        self.assertEqual(needs_of(((1, 1, 3),)), {(1, 1): 1, (1, 2): 1})
        self.assertEqual(needs_of(((0, 3, 4),)), {(0, 3): 1})

    def test_stays_are_counted_together(self):
        party = ((0, 0, 2), (0, 1, 4), (1, 1, 2))
        self.assertEqual(needs_of(party), {(0, 0): 1, (0, 1): 2, (0, 2): 1, (0, 3): 1, (1, 1): 1})

    def test_equal_stays_are_counted_each(self):
        self.assertEqual(needs_of(((2, 11, 12),) * 4), {(2, 11): 4})

    def test_all_parties_of_a_small_inn(self):
        for party in parties_of(2, 3, 3):
            cells = [(kind, night) for kind in range(2) for night in range(3)]
            counts = {cell: sum(cell in nights_of(stay) for stay in party) for cell in cells}
            self.assertEqual(needs_of(party), {cell: count for cell, count in counts.items() if count})

    def test_what_is_returned_is_new(self):
        party = ((0, 0, 1),)
        needs_of(party).clear()
        self.assertEqual(needs_of(party), {(0, 0): 1})


class PriceTest(unittest.TestCase):
    def test_the_price_is_the_sum_over_all_nights_of_all_stays(self):
        self.assertEqual(price_of(SETUP, ((0, 0, 4),)), 63)
        self.assertEqual(price_of(SETUP, ((0, 1, 3), (0, 2, 3), (1, 3, 4))), 20 + 33 + 33 + 99)
        self.assertEqual(price_of(SETUP, ((1, 2, 3), (1, 2, 3))), 2000000)
        self.assertEqual(price_of(SETUP, ((0, 3, 4),)), 0)

    def test_prices_of_the_smallest_and_the_largest_inn(self):
        self.assertEqual(price_of(SMALLEST, ((0, 0, 1),) * 4), 0)
        self.assertEqual(price_of(LARGEST, ((2, 0, 12),) * 4), 48 * 10**6)


class KeptTest(unittest.TestCase):
    def test_each_price_is_rounded_down_by_itself(self):
        # 15 parts in a hundred of 10, 20 and 33 are 1.5, 3 and 4.95: 9.45 together.
        self.assertEqual(kept_of(SETUP, ((0, 0, 3),)), 1 + 3 + 4)
        self.assertEqual(kept_of(SETUP, ((0, 0, 1), (0, 0, 1))), 2)
        self.assertEqual(kept_of(SETUP, ((0, 2, 3),) * 4), 16)
        self.assertEqual(kept_of(SETUP, ((1, 0, 4),)), 0 + 1 + 150000 + 14)

    def test_no_share_and_the_whole_share(self):
        party = ((0, 0, 3), (1, 0, 4))
        self.assertEqual(kept_of(SETUP[:4] + (0,), party), 0)
        self.assertEqual(kept_of(SETUP[:4] + (100,), party), price_of(SETUP, party))
        self.assertEqual(kept_of(LARGEST, ((0, 0, 12),) * 4), 48 * 10**6)
        self.assertEqual(kept_of(SMALLEST, ((0, 0, 1),)), 0)

    def test_all_parties_of_a_small_inn(self):
        prices = ((3, 7, 199), (50, 33, 1))
        for share in (1, 33, 50, 99):
            setup = ((1, 1), 3, 1, prices, share)
            for party in parties_of(2, 3, 2):
                paid = [prices[kind][night] for stay in party for kind, night in nights_of(stay)]
                self.assertEqual(price_of(setup, party), sum(paid))
                self.assertEqual(kept_of(setup, party), sum(price * share // 100 for price in paid))


if __name__ == "__main__":
    unittest.main()
