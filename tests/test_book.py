"""Point 5: the plain book."""

import random
import unittest

from manydoors.inn import Book
from tests.samples import nights_of, parties_of, stays_of


class BookTest(unittest.TestCase):
    def assert_book(self, book, rooms, nights, parties):
        """What the book keeps and what is free is what these parties make."""
        self.assertEqual(book.parties(), parties)
        let = [cell for party in parties.values() for stay in party for cell in nights_of(stay)]
        for kind, many in enumerate(rooms):
            for night in range(nights):
                self.assertEqual(book.free(kind, night), many - let.count((kind, night)))

    def test_an_empty_book(self):
        self.assert_book(Book((2, 0, 4), 3), (2, 0, 4), 3, {})

    def test_a_wish_that_fits_is_kept(self):
        book = Book((2, 1), 4)
        self.assertIs(book.wish((0, 0), ((0, 0, 2), (1, 3, 4))), True)
        self.assertIs(book.wish((1, 0), ((0, 1, 4),)), True)
        self.assert_book(book, (2, 1), 4, {(0, 0): ((0, 0, 2), (1, 3, 4)), (1, 0): ((0, 1, 4),)})

    def test_a_wish_that_does_not_fit_changes_nothing(self):
        book = Book((2, 1), 4)
        self.assertIs(book.wish((0, 0), ((0, 0, 2), (0, 1, 3))), True)
        self.assertIs(book.wish((0, 1), ((0, 0, 2),)), False)
        self.assertIs(book.wish((0, 2), ((0, 3, 4), (1, 0, 1), (1, 0, 1))), False)
        self.assert_book(book, (2, 1), 4, {(0, 0): ((0, 0, 2), (0, 1, 3))})

    def test_equal_stays_need_a_room_each(self):
        stay = (0, 0, 1)
        for many in range(5):
            for rooms in range(5):
                book = Book((rooms,), 1)
                self.assertIs(book.wish((0, 0), (stay,) * many), many <= rooms)
                self.assert_book(book, (rooms,), 1, {(0, 0): (stay,) * many} if many <= rooms else {})

    def test_a_kind_without_rooms_lets_nothing(self):
        book = Book((0, 1), 1)
        self.assertIs(book.wish((0, 0), ((0, 0, 1),)), False)
        self.assertIs(book.wish((0, 1), ((1, 0, 1),)), True)

    def test_the_last_night(self):
        book = Book((1,), 12)
        self.assertIs(book.wish((0, 0), ((0, 11, 12),)), True)
        self.assertIs(book.wish((0, 1), ((0, 10, 12),)), False)
        self.assertIs(book.wish((0, 2), ((0, 0, 11),)), True)
        self.assertEqual(book.free(0, 11), 0)

    def test_stays_that_follow_one_another_share_a_room(self):
        book = Book((1,), 4)
        self.assertIs(book.wish((0, 0), ((0, 0, 2), (0, 2, 4))), True)

    def test_cancel(self):
        book = Book((1,), 2)
        book.wish((0, 0), ((0, 0, 1),))
        book.wish((1, 0), ((0, 1, 2),))
        self.assertIs(book.cancel((0, 1)), False)
        self.assertIs(book.cancel((2, 0)), False)
        self.assertIs(book.cancel((0, 0)), True)
        self.assert_book(book, (1,), 2, {(1, 0): ((0, 1, 2),)})
        self.assertIs(book.cancel((0, 0)), False)
        self.assert_book(book, (1,), 2, {(1, 0): ((0, 1, 2),)})

    def test_a_name_that_is_cancelled_can_not_be_changed(self):
        book = Book((1,), 2)
        book.wish((0, 0), ((0, 0, 1),))
        book.cancel((0, 0))
        self.assertIs(book.change((0, 0), ((0, 0, 1),)), False)
        self.assert_book(book, (1,), 2, {})

    def test_the_old_party_is_taken_out_for_a_change(self):
        book = Book((1,), 3)
        book.wish((0, 0), ((0, 0, 2),))
        self.assertIs(book.change((0, 0), ((0, 0, 2),)), True)
        self.assertIs(book.change((0, 0), ((0, 1, 3),)), True)
        self.assert_book(book, (1,), 3, {(0, 0): ((0, 1, 3),)})

    def test_a_change_that_does_not_fit_changes_nothing(self):
        book = Book((1,), 3)
        book.wish((0, 0), ((0, 0, 1),))
        book.wish((0, 1), ((0, 2, 3),))
        self.assertIs(book.change((0, 0), ((0, 0, 3),)), False)
        self.assertIs(book.change((0, 0), ((0, 0, 1), (0, 0, 1))), False)
        self.assert_book(book, (1,), 3, {(0, 0): ((0, 0, 1),), (0, 1): ((0, 2, 3),)})

    def test_a_change_of_what_is_not_kept_changes_nothing(self):
        book = Book((1,), 3)
        self.assertIs(book.change((0, 0), ((0, 0, 1),)), False)
        self.assert_book(book, (1,), 3, {})

    def test_a_name_is_both_the_seller_and_the_number(self):
        book = Book((4,), 1)
        for name in [(0, 1), (1, 0), (1, 1)]:
            book.wish(name, ((0, 0, 1),))
        self.assertIs(book.cancel((1, 0)), True)
        self.assertEqual(sorted(book.parties()), [(0, 1), (1, 1)])

    def test_what_parties_returns_is_new(self):
        book = Book((2,), 1)
        book.wish((0, 0), ((0, 0, 1),))
        before = book.parties()
        book.parties().clear()
        book.parties()[(5, 5)] = ((0, 0, 1),)
        self.assert_book(book, (2,), 1, {(0, 0): ((0, 0, 1),)})
        book.wish((0, 1), ((0, 0, 1),))
        self.assertEqual(before, {(0, 0): ((0, 0, 1),)})

    def test_books_are_kept_apart(self):
        one, other = Book((1,), 1), Book((1,), 1)
        one.wish((0, 0), ((0, 0, 1),))
        self.assert_book(other, (1,), 1, {})

    def test_more_than_the_document_limits_raises_nothing(self):
        book = Book((9, 1, 1, 1), 30)
        self.assertIs(book.wish((7, 0), ((0, 0, 30),) * 9), True)
        self.assertIs(book.wish((7, 1), ((0, 29, 30),)), False)
        self.assertIs(book.wish((7, 2), ((3, 29, 30),)), True)
        self.assertEqual(book.free(0, 29), 0)

    def test_what_is_none_of_the_inn_has_no_rooms(self):
        book = Book((1, 1), 2)
        for stay in [(0, 0, 3), (1, 2, 3), (2, 0, 1), (-1, 0, 1)]:
            self.assertIs(book.wish((0, 0), (stay,)), False)
        self.assertEqual([book.free(0, 2), book.free(2, 0), book.free(-1, 0)], [0, 0, 0])
        self.assert_book(book, (1, 1), 2, {})


class ManyBooksTest(unittest.TestCase):
    def test_all_pairs_of_parties_in_a_small_inn(self):
        parties = parties_of(1, 3, 2)
        for rooms in range(4):
            for first in parties:
                for second in parties:
                    book = Book((rooms,), 3)
                    kept = [book.wish((0, 0), first), book.wish((0, 1), second)]
                    self.assertEqual(kept, plain_wishes(rooms, [first, second]))

    def test_long_lists_of_deeds(self):
        for seed in range(60):
            chance = random.Random(seed)
            rooms = tuple(chance.randrange(5) for _ in range(chance.randrange(1, 4)))
            nights = chance.randrange(1, 7)
            self.run_deeds(chance, rooms, nights)

    def run_deeds(self, chance, rooms, nights):
        """Do deeds in the book and, in the most plain way, in a dictionary beside it."""
        book, kept = Book(rooms, nights), {}
        for number in range(40):
            party = tuple(sorted(chance.choices(stays_of(len(rooms), nights), k=chance.randrange(1, 5))))
            name = (0, chance.randrange(number + 1))
            word = chance.choice(["wish", "wish", "cancel", "change"])
            if word == "wish":
                name, found = (0, number), book.wish((0, number), party)
                granted = fits(rooms, list(kept.values()) + [party])
            elif word == "cancel":
                found, granted = book.cancel(name), name in kept
            else:
                found = book.change(name, party)
                others = [kept[other] for other in kept if other != name]
                granted = name in kept and fits(rooms, others + [party])
            self.assertIs(found, granted)
            if granted and word == "cancel":
                del kept[name]
            elif granted:
                kept[name] = party
            BookTest.assert_book(self, book, rooms, nights, kept)


def fits(rooms, parties):
    """Tell whether the parties together need at most the rooms of each cell."""
    let = [cell for party in parties for stay in party for cell in nights_of(stay)]
    return all(let.count((kind, night)) <= rooms[kind] for kind, night in let)


def plain_wishes(rooms, parties):
    """Return for each party whether it is granted behind those before it."""
    kept, told = [], []
    for party in parties:
        told.append(fits((rooms,), kept + [party]))
        if told[-1]:
            kept.append(party)
    return told


if __name__ == "__main__":
    unittest.main()
