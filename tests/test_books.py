"""Points 16 and 21: the judge of books, and the takings."""

import copy
import random
import unittest

from manydoors.judge import judge_books, takings
from manydoors.world import World
from tests.samples import SETUP
from tests.worlds import ask, choice, deliver, random_choice, random_world

PARTY = ((0, 0, 1),)
OTHER = ((0, 1, 2),)
SOLD = ("sold", 0, PARTY, 10, 1)
CHANGED = ("changed", 0, OTHER, 20, 3, 10, 1)
CANCELLED = ("cancelled", 0, 20, 3)
BOOK = [SOLD, CHANGED, CANCELLED]


class JudgeBooksTest(unittest.TestCase):
    def assert_judged(self, seller_book, house_book, expected):
        books = copy.deepcopy((seller_book, house_book))
        self.assertEqual(judge_books(seller_book, house_book), expected)
        self.assertEqual((seller_book, house_book), books)

    def test_equal_books_are_alike(self):
        for size in range(4):
            self.assert_judged(BOOK[:size], BOOK[:size], ("alike",))
        self.assert_judged(BOOK, BOOK, ("alike",))
        self.assert_judged([], [], ("alike",))

    def test_rows_that_are_missing_are_under_way(self):
        self.assert_judged(BOOK, [], ("under way", BOOK))
        self.assert_judged(BOOK, BOOK[:1], ("under way", [CHANGED, CANCELLED]))
        self.assert_judged(BOOK, BOOK[:2], ("under way", [CANCELLED]))
        self.assert_judged([SOLD, SOLD], [SOLD], ("under way", [SOLD]))

    def test_the_list_of_rows_is_a_new_one(self):
        book = list(BOOK)
        judged = judge_books(book, [])
        self.assertIs(type(judged), tuple)
        self.assertIs(type(judged[1]), list)
        judged[1].append(SOLD)
        self.assertEqual(book, BOOK)

    def test_a_book_that_goes_on_beyond_the_sellers_is_altered_at_its_end(self):
        self.assert_judged([], [SOLD], ("altered", 0))
        self.assert_judged([], BOOK, ("altered", 0))
        self.assert_judged([SOLD], BOOK, ("altered", 1))
        self.assert_judged(BOOK, BOOK + [SOLD, SOLD], ("altered", 3))

    def test_books_that_differ_are_altered_at_the_first_index(self):
        for index in range(3):
            for row in (("cancelled", 1, 20, 3), ("sold", 0, PARTY, 10, 2)):
                altered = BOOK[:index] + [row] + BOOK[index + 1 :]
                self.assert_judged(BOOK, altered, ("altered", index))
                self.assert_judged(BOOK, altered[: index + 1], ("altered", index))
                self.assert_judged(BOOK[: index + 1], altered, ("altered", index))
        self.assert_judged(BOOK, BOOK[::-1], ("altered", 0))
        self.assert_judged(BOOK, [SOLD, CANCELLED], ("altered", 1))
        self.assert_judged(BOOK, [CHANGED, CANCELLED], ("altered", 0))

    def test_each_item_of_a_row_counts(self):
        for at in range(len(CHANGED)):
            row = CHANGED[:at] + (None,) + CHANGED[at + 1 :]
            self.assert_judged([SOLD, CHANGED], [SOLD, row], ("altered", 1))


class WorldBooksTest(unittest.TestCase):
    def assert_books_of_world(self, world):
        """The books are alike or under way, with the rows of the entry bodies under way; return how many these are."""
        many = 0
        for number, seller in enumerate(world.sellers):
            expected = world.house_wires[number].expected
            bodies = [body for at, body in world.seller_wires[number].outbox if at >= expected]
            rows = [body[1] for body in bodies if body[0] == "entry"]
            judged = judge_books(seller.book, world.house.books[number])
            self.assertEqual(judged, ("under way", rows) if rows else ("alike",))
            many += len(rows)
        return many

    def test_a_row_is_under_way_until_it_is_handled(self):
        world = World(SETUP, [[("wish", PARTY), ("cancel", 0)], []])
        world.choose(choice(9))
        world.choose(deliver(0))
        world.choose(ask(0))
        world.choose(ask(0))
        rows = [SOLD, ("cancelled", 0, 10, 1)]
        self.assertEqual(judge_books(world.sellers[0].book, world.house.books[0]), ("under way", rows))
        self.assertEqual(judge_books(world.sellers[1].book, world.house.books[1]), ("alike",))
        # Behind the ack of the night stand the two entries.
        world.choose(deliver(1))
        self.assertEqual(judge_books(world.sellers[0].book, world.house.books[0]), ("under way", rows[1:]))
        world.settle()
        self.assertEqual(judge_books(world.sellers[0].book, world.house.books[0]), ("alike",))

    def test_in_random_worlds(self):
        many = 0
        for seed in range(60):
            source = random.Random(seed)
            world = random_world(source, 12)
            for _ in range(150):
                world.choose(random_choice(source))
                many += self.assert_books_of_world(world)
            world.settle()
            self.assertEqual(self.assert_books_of_world(world), 0)
        self.assertGreater(many, 100)


class TakingsTest(unittest.TestCase):
    def test_the_takings_of_no_rows(self):
        self.assertEqual(takings([]), 0)

    def test_each_kind_of_row(self):
        self.assertEqual(takings([SOLD]), 9)
        self.assertEqual(takings([CANCELLED]), -17)
        self.assertEqual(takings([CHANGED]), 17 - 9)
        self.assertEqual(takings([("changed", 4, PARTY, 1000, 300, 20000, 7000)]), 700 - 13000)

    def test_the_rows_of_a_book_together(self):
        self.assertEqual(takings([SOLD, CHANGED]), 17)
        self.assertEqual(takings(BOOK), 0)
        self.assertEqual(takings(BOOK + [("sold", 7, PARTY, 48000000, 0)]), 48000000)
        self.assertEqual(takings([("sold", 7, PARTY, 500, 500)]), 0)

    def test_the_book_stays_as_it_is(self):
        book = list(BOOK)
        takings(book)
        self.assertEqual(book, BOOK)

    def test_in_random_worlds_they_are_what_the_vouchers_bring(self):
        for seed in range(40):
            source = random.Random(seed)
            world = random_world(source, 12)
            prices, share = world.setup[3:]
            for _ in range(150):
                world.choose(random_choice(source))
            for seller in world.sellers:
                stays = [stay for party in seller.vouchers.values() for stay in party]
                paid = [prices[kind][night] for kind, first, end in stays for night in range(first, end)]
                self.assertEqual(takings(seller.book), sum(price - price * share // 100 for price in paid))


if __name__ == "__main__":
    unittest.main()
