"""Point 6, and what point 24 says of housings."""

import itertools
import random
import unittest

from manydoors.errors import BadStay
from manydoors.inn import Book, housing
from tests.samples import nights_of, stays_of


def clash(stays, rooms):
    """Tell whether two stays that meet have the same room."""
    return any(
        rooms[i] is not None and rooms[i] == rooms[j] and nights_of(stays[i]) & nights_of(stays[j])
        for i, j in itertools.combinations(range(len(stays)), 2)
    )


def enough(rooms, stays):
    """Tell whether in no night more stays of a kind need a room than there are."""
    let = [cell for stay in stays for cell in nights_of(stay)]
    return all(let.count(cell) <= rooms[cell[0]] for cell in let)


def givens(rooms, stays, night):
    """Return all lists of rooms for the stays with first <= night that do not clash, None for the others."""
    choices = [range(rooms[kind]) if first <= night else [None] for kind, first, _ in stays]
    return [list(given) for given in itertools.product(*choices) if not clash(stays, given)]


def plain_housing(stays, given):
    """Return the housing of point 6, where there is one, in the words of the point."""
    housed = list(given)
    for index in sorted(range(len(stays)), key=lambda index: (stays[index][1], index)):
        if given[index] is None:
            free = itertools.count()
            housed[index] = next(room for room in free if not clash(
                stays, housed[:index] + [room] + housed[index + 1:]))
    return housed


class HousingTest(unittest.TestCase):
    def test_no_stays(self):
        self.assertEqual(housing((2,), [], -1, []), [])
        self.assertEqual(housing((0,), [], 3, []), [])

    def test_nobody_has_come_yet(self):
        stays = [(0, 0, 2), (0, 1, 3), (0, 2, 4)]
        self.assertEqual(housing((2,), stays, -1, [None, None, None]), [0, 1, 0])

    def test_rooms_are_got_in_the_order_of_first_and_index(self):
        self.assertEqual(housing((2,), [(0, 1, 3), (0, 0, 2)], -1, [None, None]), [1, 0])
        self.assertEqual(housing((3,), [(0, 0, 3), (0, 0, 1), (0, 0, 2)], -1, [None] * 3), [0, 1, 2])
        stays = [(0, 2, 3), (0, 0, 1), (0, 1, 3), (0, 0, 4)]
        self.assertEqual(housing((3,), stays, -1, [None] * 4), [2, 0, 0, 1])

    def test_those_who_have_come_keep_their_rooms(self):
        stays = [(0, 0, 2), (0, 0, 3), (0, 1, 4), (0, 3, 4)]
        self.assertEqual(housing((3,), stays, 0, [2, 1, None, None]), [2, 1, 0, 1])
        self.assertEqual(housing((3,), stays, 0, [0, 2, None, None]), [0, 2, 1, 0])

    def test_the_night_is_the_last_one(self):
        stays = [(0, 0, 2), (0, 3, 4)]
        self.assertEqual(housing((3,), stays, 3, [2, 1]), [2, 1])
        with self.assertRaises(BadStay):
            housing((3,), stays, 3, [2, None])

    def test_kinds_are_housed_apart(self):
        stays = [(0, 0, 2), (1, 0, 2), (2, 0, 1), (1, 1, 2)]
        self.assertEqual(housing((1, 2, 4), stays, -1, [None] * 4), [0, 0, 0, 1])
        self.assertEqual(housing((1, 2, 4), stays, 0, [0, 1, 3, None]), [0, 1, 3, 0])

    def test_stays_that_do_not_meet_may_have_one_room(self):
        stays = [(0, 0, 1), (0, 1, 2), (1, 0, 2)]
        self.assertEqual(housing((1, 1), stays, 1, [0, 0, 0]), [0, 0, 0])

    def test_equal_stays(self):
        self.assertEqual(housing((4,), [(0, 11, 12)] * 4, -1, [None] * 4), [0, 1, 2, 3])
        self.assertEqual(housing((4,), [(0, 0, 12)] * 3, 0, [3, 0, 1]), [3, 0, 1])

    def test_arguments_stay_as_they_were_and_the_list_is_new(self):
        stays, given = [(0, 1, 3), (0, 0, 2)], [None, 1]
        found = housing((2,), stays, 0, given)
        self.assertEqual(found, [0, 1])
        self.assertEqual((stays, given), ([(0, 1, 3), (0, 0, 2)], [None, 1]))
        given = [0]
        self.assertIsNot(housing((1,), [(0, 0, 1)], 0, given), given)

    def test_all_small_lists_of_stays(self):
        for rooms in (1, 2, 3):
            for many in (1, 2, 3):
                for stays in itertools.product(stays_of(1, 3), repeat=many):
                    self.check_all_nights((rooms,), list(stays), 3)

    def test_lists_of_stays_of_two_kinds(self):
        for stays in itertools.product(stays_of(2, 2), repeat=3):
            self.check_all_nights((1, 2), list(stays), 2)

    def check_all_nights(self, rooms, stays, nights):
        for night in range(-1, nights):
            for given in givens(rooms, stays, night):
                if enough(rooms, stays):
                    self.assertEqual(housing(rooms, stays, night, given), plain_housing(stays, given))
                else:
                    self.assertRaises(BadStay, housing, rooms, stays, night, given)


class BadStayTest(unittest.TestCase):
    def assert_bad(self, rooms, stays, night, given):
        with self.subTest(stays=stays, night=night, given=given), self.assertRaises(BadStay):
            housing(rooms, stays, night, given)

    def test_too_many_stays_in_some_night(self):
        self.assert_bad((1,), [(0, 0, 2), (0, 1, 3)], -1, [None, None])
        self.assert_bad((0,), [(0, 0, 1)], -1, [None])
        self.assert_bad((4,), [(0, 2, 3)] * 5, -1, [None] * 5)
        self.assert_bad((4, 1), [(1, 11, 12), (1, 0, 12)], -1, [None, None])
        self.assert_bad((2,), [(0, 0, 2), (0, 0, 1), (0, 1, 3), (0, 1, 2)], 0, [0, 1, None, None])

    def test_a_kind_that_the_inn_does_not_have_has_no_rooms(self):
        for kind in [-1, 2, 3]:
            self.assert_bad((1, 1), [(kind, 0, 1)], -1, [None])
            self.assert_bad((1, 1), [(kind, 0, 1)], 0, [0])

    def test_given_rooms_that_clash(self):
        self.assert_bad((2,), [(0, 0, 2), (0, 1, 3)], 1, [0, 0])
        self.assert_bad((4,), [(0, 0, 4), (0, 0, 1), (0, 3, 4)], 3, [1, 0, 1])
        self.assert_bad((4,), [(0, 0, 1), (0, 0, 1)], 0, [3, 3])
        self.assertEqual(housing((2,), [(0, 0, 1), (0, 1, 3)], 1, [1, 1]), [1, 1])
        self.assertEqual(housing((2, 2), [(0, 0, 2), (1, 0, 2)], 1, [1, 1]), [1, 1])

    def test_given_rooms_that_are_none_of_the_kind(self):
        for room in [-1, 2, 3, 10**20, True, False, "0", 0.0, (0,)]:
            self.assert_bad((2, 4), [(0, 0, 1)], 0, [room])
        for room in [-1, 4]:
            self.assert_bad((2, 4), [(1, 0, 1)], 0, [room])
        self.assertEqual(housing((2, 4), [(1, 0, 1)], 0, [3]), [3])
        self.assertEqual(housing((2, 4), [(0, 0, 1)], 0, [1]), [1])

    def test_given_of_another_length(self):
        self.assert_bad((2,), [(0, 0, 1)], -1, [])
        self.assert_bad((2,), [(0, 0, 1)], -1, [None, None])
        self.assert_bad((2,), [], -1, [None])
        self.assert_bad((2,), [(0, 0, 1)], 0, [0, 1])
        self.assert_bad((2,), [(0, 0, 1), (0, 0, 1)], 0, [0])

    def test_rooms_given_to_others_than_those_who_have_come(self):
        stays = [(0, 0, 2), (0, 1, 3)]
        self.assert_bad((2,), stays, -1, [0, None])
        self.assert_bad((2,), stays, -1, [None, 0])
        self.assert_bad((2,), stays, 0, [None, None])
        self.assert_bad((2,), stays, 0, [0, 1])
        self.assert_bad((2,), stays, 0, [None, 1])
        self.assert_bad((2,), stays, 1, [0, None])
        self.assert_bad((2,), stays, 1, [None, 1])
        self.assertEqual(housing((2,), stays, 0, [0, None]), [0, 1])
        self.assertEqual(housing((2,), stays, 1, [0, 1]), [0, 1])

    def test_a_stay_that_is_over_still_has_its_room(self):
        self.assert_bad((1,), [(0, 0, 1), (0, 2, 3)], 1, [None, None])
        self.assertEqual(housing((1,), [(0, 0, 1), (0, 2, 3)], 1, [0, None]), [0, 0])


class KeptHousingTest(unittest.TestCase):
    """What the plain book keeps can be housed, whatever housing those have who have come."""

    def test_parties_of_the_book_are_housed_night_by_night(self):
        for seed in range(150):
            chance = random.Random(seed)
            rooms = tuple(chance.randrange(5) for _ in range(chance.randrange(1, 4)))
            nights = chance.randrange(1, 8)
            stays = self.kept_stays(chance, rooms, nights)
            housed = housing(rooms, stays, -1, [None] * len(stays))
            for night in range(nights):
                given = [housed[i] if stay[1] <= night else None for i, stay in enumerate(stays)]
                housed = housing(rooms, stays, night, self.shuffled(chance, rooms, stays, night, given))
                self.assert_housed(rooms, stays, housed)

    def kept_stays(self, chance, rooms, nights):
        book = Book(rooms, nights)
        for number in range(30):
            many = chance.randrange(1, 4)
            party = tuple(sorted(chance.choices(stays_of(len(rooms), nights), k=many)))
            book.wish((0, number), party)
        stays = [stay for party in book.parties().values() for stay in party]
        chance.shuffle(stays)
        return stays

    def shuffled(self, chance, rooms, stays, night, given):
        """Return another housing of those who have come: each tries to move to another room."""
        given = list(given)
        for index, (kind, first, _) in enumerate(stays):
            if first <= night:
                moved = given[:index] + [chance.randrange(rooms[kind])] + given[index + 1:]
                given = given if clash(stays, moved) else moved
        return given

    def assert_housed(self, rooms, stays, housed):
        self.assertEqual(len(housed), len(stays))
        self.assertFalse(clash(stays, housed))
        for (kind, _, _), room in zip(stays, housed):
            self.assertTrue(0 <= room < rooms[kind])

    def test_those_who_have_come_keep_any_housing(self):
        chance = random.Random(24)
        for _ in range(200):
            stays = [chance.choice(stays_of(2, 4)) for _ in range(5)]
            if enough((2, 3), stays):
                night = chance.randrange(-1, 4)
                for given in givens((2, 3), stays, night):
                    housed = housing((2, 3), stays, night, given)
                    self.assert_housed((2, 3), stays, housed)
                    kept = [room for room, before in zip(housed, given) if before is not None]
                    self.assertEqual(kept, [before for before in given if before is not None])


if __name__ == "__main__":
    unittest.main()
