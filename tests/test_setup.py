"""Point 2: what is a setup, and what is none."""

import unittest

from manydoors.errors import BadSetup
from manydoors.inn import check_setup
from tests.samples import LARGEST, SETUP, SMALLEST

NO_TUPLES = [None, True, False, 0, 1, 2.0, "", "abcde", b"abcde", [], {}, set(), object(), range(5)]
NO_INTEGERS = [None, True, False, 1.0, "1", b"1", [1], (1,), {}, 1j]


def with_part(setup, index, part):
    """Return the setup with another part at the index."""
    return setup[:index] + (part,) + setup[index + 1:]


class SetupTest(unittest.TestCase):
    def assert_setup(self, setup):
        self.assertIsNone(check_setup(setup))

    def assert_no_setup(self, setup):
        with self.subTest(setup=setup), self.assertRaises(BadSetup):
            check_setup(setup)

    def test_setups(self):
        self.assert_setup(SETUP)
        self.assert_setup(SMALLEST)
        self.assert_setup(LARGEST)
        self.assert_setup(((0, 4), 1, 4, ((0,), (10**6,)), 100))

    def test_one_to_three_kinds(self):
        for kinds in (1, 2, 3):
            self.assert_setup(((1,) * kinds, 2, 1, ((5, 6),) * kinds, 50))
        for kinds in (0, 4):
            self.assert_no_setup(((1,) * kinds, 2, 1, ((5, 6),) * kinds, 50))

    def test_rooms_from_0_to_4_of_each_kind(self):
        for rooms in range(5):
            self.assert_setup(((rooms, 1), 1, 1, ((5,), (5,)), 50))
            self.assert_setup(((1, rooms), 1, 1, ((5,), (5,)), 50))
        for rooms in [-1, 5, 10**30] + NO_INTEGERS:
            self.assert_no_setup(((rooms, 1), 1, 1, ((5,), (5,)), 50))
            self.assert_no_setup(((1, rooms), 1, 1, ((5,), (5,)), 50))

    def test_1_to_12_nights(self):
        for nights in range(1, 13):
            self.assert_setup(((1,), nights, 1, ((5,) * nights,), 50))
        for nights in [0, 13]:
            self.assert_no_setup(((1,), nights, 1, ((5,) * nights,), 50))
        for nights in [-1] + NO_INTEGERS:
            self.assert_no_setup(((1,), nights, 1, ((5,),), 50))
            self.assert_no_setup(((1,), nights, 1, ((),), 50))

    def test_1_to_4_sellers(self):
        for sellers in (1, 2, 3, 4):
            self.assert_setup(with_part(SETUP, 2, sellers))
        for sellers in [-1, 0, 5] + NO_INTEGERS:
            self.assert_no_setup(with_part(SETUP, 2, sellers))

    def test_share_from_0_to_100(self):
        for share in (0, 1, 50, 99, 100):
            self.assert_setup(with_part(SETUP, 4, share))
        for share in [-1, 101] + NO_INTEGERS:
            self.assert_no_setup(with_part(SETUP, 4, share))

    def test_prices_from_0_to_a_million(self):
        for price in (0, 1, 10**6 - 1, 10**6):
            self.assert_setup(((1, 1), 2, 1, ((5, 5), (5, price)), 50))
            self.assert_setup(((1, 1), 2, 1, ((price, 5), (5, 5)), 50))
        for price in [-1, 10**6 + 1] + NO_INTEGERS:
            self.assert_no_setup(((1, 1), 2, 1, ((5, 5), (5, price)), 50))
            self.assert_no_setup(((1, 1), 2, 1, ((price, 5), (5, 5)), 50))

    def test_one_tuple_of_prices_for_each_kind(self):
        row = (1, 2)
        self.assert_setup(((1, 1), 2, 1, (row, row), 50))
        for prices in [(), (row,), (row, row, row), [row, row], {0: row, 1: row}, "ab", None, True, 3]:
            self.assert_no_setup(((1, 1), 2, 1, prices, 50))

    def test_one_price_for_each_night(self):
        row = (1, 2)
        for bad in [(), (1,), (1, 2, 3), [1, 2], {0: 1, 1: 2}, "12", b"12", None, True, 2]:
            self.assert_no_setup(((1, 1), 2, 1, (row, bad), 50))
            self.assert_no_setup(((1, 1), 2, 1, (bad, row), 50))

    def test_rooms_is_a_tuple(self):
        for rooms in [[2, 1], {2: 0, 1: 0}, "21", b"21", range(2), None, 2, True]:
            self.assert_no_setup(with_part(SETUP, 0, rooms))

    def test_a_setup_is_a_tuple_of_five_parts(self):
        for setup in NO_TUPLES:
            self.assert_no_setup(setup)
        self.assert_no_setup(list(SETUP))
        self.assert_no_setup(())
        self.assert_no_setup(SETUP[:4])
        self.assert_no_setup(SETUP[1:])
        self.assert_no_setup(SETUP + (0,))
        self.assert_no_setup((SETUP,))

    def test_each_part_may_be_wrong(self):
        for index in range(5):
            for part in [None, "", [], {}, (), True, False, -1, 1.5]:
                self.assert_no_setup(with_part(SETUP, index, part))


if __name__ == "__main__":
    unittest.main()
