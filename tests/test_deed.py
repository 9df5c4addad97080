"""Points 3 and 4: what is a deed of a setup, and what is none."""

import unittest

from manydoors.errors import BadDeed
from manydoors.inn import check_deed
from tests.samples import LARGEST, SETUP, SMALLEST

NO_INTEGERS = [None, True, False, 1.0, "1", b"1", [1], (1,), {}]
NO_TUPLES = [None, True, 0, 1, 2.5, "wish", "", b"", [], {}, object()]

# SETUP has two kinds and four nights.
GOOD_STAYS = [(0, 0, 1), (1, 0, 1), (0, 0, 4), (1, 3, 4), (0, 1, 3)]
BAD_STAYS = [
    (-1, 0, 1), (2, 0, 1), (0, -1, 1), (0, 0, 0), (0, 1, 1), (0, 2, 1), (0, 0, 5), (0, 4, 5), (0, 3, 5), (0, 4, 4),
    (), (0,), (0, 0), (0, 0, 1, 0), [0, 0, 1], "001", b"abc", None, 0, True, {0: 1},
] + [stay for bad in NO_INTEGERS for stay in [(bad, 0, 1), (0, bad, 2), (0, 0, bad)]]
BAD_PARTIES = [
    (), [], [(0, 0, 1)], (0, 0, 1), ((0, 0, 1),) * 5, ((0, 1, 2), (0, 0, 1)), ((1, 0, 1), (0, 0, 1)),
    ((0, 0, 2), (0, 0, 1)), ((0, 0, 1), (0, 1, 2), (0, 0, 1)), {(0, 0, 1): 1}, "0:0-1", None, True, 1,
]


class DeedTest(unittest.TestCase):
    def assert_deed(self, setup, deed):
        with self.subTest(deed=deed):
            self.assertIsNone(check_deed(setup, deed))

    def assert_no_deed(self, deed, setup=SETUP):
        with self.subTest(deed=deed), self.assertRaises(BadDeed):
            check_deed(setup, deed)

    def test_wishes_cancels_and_changes(self):
        self.assert_deed(SETUP, ("wish", ((0, 0, 2), (1, 1, 4))))
        self.assert_deed(SETUP, ("cancel", 0))
        self.assert_deed(SETUP, ("cancel", 10**30))
        self.assert_deed(SETUP, ("change", 0, ((0, 0, 2),)))
        self.assert_deed(SETUP, ("change", 7, ((0, 0, 2), (0, 0, 2))))

    def test_stays(self):
        for stay in GOOD_STAYS:
            self.assert_deed(SETUP, ("wish", (stay,)))
            self.assert_deed(SETUP, ("change", 3, (stay,)))
        for stay in BAD_STAYS:
            self.assert_no_deed(("wish", (stay,)))
            self.assert_no_deed(("change", 3, (stay,)))

    def test_a_bad_stay_beside_good_ones(self):
        for stay in BAD_STAYS:
            self.assert_no_deed(("wish", ((0, 0, 1), stay)))
            self.assert_no_deed(("wish", (stay, (1, 3, 4))))

    def test_stays_of_the_smallest_and_the_largest_inn(self):
        self.assert_deed(SMALLEST, ("wish", ((0, 0, 1),)))
        self.assert_no_deed(("wish", ((0, 0, 2),)), SMALLEST)
        self.assert_no_deed(("wish", ((1, 0, 1),)), SMALLEST)
        self.assert_deed(LARGEST, ("wish", ((2, 0, 12),)))
        self.assert_deed(LARGEST, ("wish", ((2, 11, 12),)))
        self.assert_no_deed(("wish", ((2, 0, 13),)), LARGEST)
        self.assert_no_deed(("wish", ((2, 12, 13),)), LARGEST)
        self.assert_no_deed(("wish", ((3, 0, 12),)), LARGEST)

    def test_parties_of_one_to_four_stays(self):
        for many in (1, 2, 3, 4):
            self.assert_deed(SETUP, ("wish", ((0, 0, 1),) * many))
            self.assert_deed(SETUP, ("change", 0, ((1, 3, 4),) * many))
        self.assert_deed(SETUP, ("wish", ((0, 0, 1), (0, 0, 2), (0, 1, 2), (1, 0, 1))))

    def test_bad_parties(self):
        for party in BAD_PARTIES:
            self.assert_no_deed(("wish", party))
            self.assert_no_deed(("change", 0, party))

    def test_numbers_are_integers_from_0_on(self):
        for number in [-1, -10**20] + NO_INTEGERS:
            self.assert_no_deed(("cancel", number))
            self.assert_no_deed(("change", number, ((0, 0, 1),)))

    def test_a_deed_is_a_tuple_of_its_parts(self):
        party = ((0, 0, 1),)
        for deed in NO_TUPLES + [(), ("wish",), ("cancel",), ("change",)]:
            self.assert_no_deed(deed)
        for deed in [("wish", party, party), ("wish", party, 0), ("wish", 0, party), ("cancel", 0, 0)]:
            self.assert_no_deed(deed)
        for deed in [("cancel", 0, party), ("cancel", party), ("wish", 0), ("change", 0), ("change", party)]:
            self.assert_no_deed(deed)
        for deed in [("change", party, 0), ("change", 0, party, party), ("change", 0, party, 0)]:
            self.assert_no_deed(deed)
        for deed in [["wish", party], ["cancel", 0], ["change", 0, party]]:
            self.assert_no_deed(deed)

    def test_other_words(self):
        party = ((0, 0, 1),)
        for word in ["", "Wish", "wish ", "sold", "ask", b"wish", None, 0, True, ("wish",), ["wish"]]:
            self.assert_no_deed((word, party))
            self.assert_no_deed((word, 0))
            self.assert_no_deed((word, 0, party))


if __name__ == "__main__":
    unittest.main()
