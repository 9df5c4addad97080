"""Points 12 to 15: the house's stock, its rounds, and what it sends."""

import unittest

from manydoors.errors import BadSetup
from manydoors.house import House
from tests.samples import LARGEST, SETUP, SMALLEST, cells_of

PRICES = SETUP[3]
THREE = ((2, 1), 4, 3, PRICES, 15)
ONE = ((4,), 2, 1, ((1, 1),), 0)
LACK = (((0, 0), 1), ((0, 1), 2), ((1, 0), 1))
CELLS = ((0, 0), (0, 1), (1, 0))


def house_with_nights_given(setup, nights):
    """Return a house that has given these nights (seller, kind, night), with nothing left to send."""
    house = House(setup)
    for seller, kind, night in nights:
        house.give(seller, kind, night)
    house.bodies()
    return house


class HouseCase(unittest.TestCase):
    def assert_stock(self, house, setup, missing):
        """The house has all rooms in stock, but for these numbers by cells."""
        expected = {cell: setup[0][cell[0]] - missing.get(cell, 0) for cell in cells_of(setup)}
        self.assertEqual(house.stock, expected)


class NewHouseTest(HouseCase):
    def test_fields_at_first(self):
        for setup in (SMALLEST, SETUP, LARGEST):
            house = House(setup)
            self.assert_stock(house, setup, {})
            self.assertEqual(house.books, [[] for _ in range(setup[2])])
            self.assertEqual(house.queue, [])
            self.assertIsNone(house.round)
            self.assertEqual(house.bodies(), [])

    def test_what_is_not_a_setup(self):
        for setup in (None, (), ((5,), 1, 1, ((0,),), 0), ((1,), 1, 5, ((0,),), 0), list(SETUP)):
            with self.assertRaises(BadSetup):
                House(setup)


class GiveTest(HouseCase):
    def test_give_takes_from_the_stock_until_it_is_empty(self):
        house = House(SETUP)
        self.assertIs(house.give(1, 0, 3), True)
        self.assertIs(house.give(0, 0, 3), True)
        self.assert_stock(house, SETUP, {(0, 3): 2})
        self.assertEqual(house.bodies(), [(1, ("give", 0, 3)), (0, ("give", 0, 3))])
        self.assertIs(house.give(1, 0, 3), False)
        self.assert_stock(house, SETUP, {(0, 3): 2})
        self.assertEqual(house.bodies(), [])

    def test_nothing_is_given_where_there_are_no_rooms(self):
        house = House(SMALLEST)
        self.assertIs(house.give(0, 0, 0), False)
        self.assertEqual(house.stock, {(0, 0): 0})
        self.assertEqual(house.bodies(), [])

    def test_all_four_rooms_may_be_given(self):
        house = House(ONE)
        self.assertEqual([house.give(0, 0, 1) for _ in range(5)], [True] * 4 + [False])
        self.assertEqual(house.stock, {(0, 0): 4, (0, 1): 0})

    def test_nothing_is_given_in_a_round(self):
        house = House(ONE)
        house.handle(0, ("ask", 0, (((0, 0), 1),)))
        house.bodies()
        self.assertIs(house.give(0, 0, 0), False)
        self.assertIs(house.give(0, 0, 1), False)
        self.assert_stock(house, ONE, {})
        self.assertEqual(house.bodies(), [])
        house.handle(0, ("closed", (0,)))
        house.bodies()
        self.assertIs(house.give(0, 0, 1), True)

    def test_want_is_sent_always(self):
        house = House(SETUP)
        house.want(1, 1, 2)
        self.assert_stock(house, SETUP, {})
        house.handle(0, ("ask", 0, (((0, 0), 1),)))
        house.want(0, 0, 0)
        bodies = [(1, ("want", 1, 2)), (0, ("close", ((0, 0),))), (1, ("close", ((0, 0),))), (0, ("want", 0, 0))]
        self.assertEqual(house.bodies(), bodies)


class HandleTest(HouseCase):
    def test_back_adds_a_night_to_the_stock(self):
        house = house_with_nights_given(SETUP, [(0, 0, 1), (0, 0, 1), (1, 1, 2)])
        house.handle(0, ("back", 0, 1))
        self.assert_stock(house, SETUP, {(0, 1): 1, (1, 2): 1})
        house.handle(1, ("back", 1, 2))
        self.assert_stock(house, SETUP, {(0, 1): 1})
        self.assertEqual(house.bodies(), [])

    def test_entries_go_to_the_book_of_their_seller(self):
        house = House(THREE)
        rows = [("sold", 0, ((0, 0, 1),), 10, 1), ("cancelled", 0, 10, 1), ("sold", 1, ((0, 1, 2),), 20, 3)]
        house.handle(1, ("entry", rows[0]))
        house.handle(2, ("entry", rows[2]))
        house.handle(1, ("entry", rows[1]))
        self.assertEqual(house.books, [[], [rows[0], rows[1]], [rows[2]]])
        self.assertEqual(house.bodies(), [])
        self.assert_stock(house, THREE, {})

    def test_an_ask_begins_a_round_with_all_sellers(self):
        house = House(THREE)
        house.handle(1, ("ask", 5, LACK))
        self.assertEqual(house.round, (1, 5, LACK))
        self.assertEqual(house.queue, [])
        self.assertEqual(house.bodies(), [(seller, ("close", CELLS)) for seller in range(3)])
        self.assert_stock(house, THREE, {})

    def test_asks_in_a_round_go_to_the_end_of_the_queue(self):
        house = House(THREE)
        house.handle(1, ("ask", 5, LACK))
        house.bodies()
        house.handle(2, ("ask", 0, LACK))
        house.handle(0, ("ask", 7, LACK[:1]))
        house.handle(1, ("ask", 6, LACK))
        self.assertEqual(house.round, (1, 5, LACK))
        self.assertEqual(house.queue, [(2, 0, LACK), (0, 7, LACK[:1]), (1, 6, LACK)])
        self.assertEqual(house.bodies(), [])

    def test_counts_are_added_to_the_stock_as_they_come(self):
        house = house_with_nights_given(THREE, [(0, 0, 1), (2, 0, 1), (2, 1, 0), (2, 1, 3)])
        house.handle(0, ("ask", 0, LACK))
        house.bodies()
        house.handle(2, ("closed", (0, 1, 1)))
        self.assert_stock(house, THREE, {(0, 1): 1, (1, 3): 1})
        house.handle(0, ("closed", (0, 1, 0)))
        self.assert_stock(house, THREE, {(1, 3): 1})
        self.assertEqual(house.round, (0, 0, LACK))
        self.assertEqual(house.bodies(), [])


class DecideTest(HouseCase):
    def test_an_ask_for_all_that_is_there_is_granted(self):
        house = house_with_nights_given(THREE, [(0, 0, 1), (2, 1, 0)])
        house.handle(1, ("ask", 3, LACK))
        house.bodies()
        house.handle(1, ("closed", (0, 0, 0)))
        house.handle(0, ("closed", (0, 1, 0)))
        house.handle(2, ("closed", (0, 0, 1)))
        nothing = (0, 0, 0)
        bodies = [(0, ("open", nothing, None)), (1, ("open", nothing, (3, True))), (2, ("open", nothing, None))]
        self.assertEqual(house.bodies(), bodies)
        self.assertIsNone(house.round)
        self.assert_stock(house, THREE, {(0, 0): 1, (0, 1): 2, (1, 0): 1})

    def test_an_ask_that_lacks_one_night_is_refused_and_all_get_their_counts_back(self):
        # A room of the kind 1 is sold in the night 0: there is no count of it.
        house = house_with_nights_given(THREE, [(0, 0, 1), (2, 0, 0), (2, 0, 0), (1, 1, 0)])
        house.handle(1, ("ask", 3, LACK))
        house.bodies()
        house.handle(0, ("closed", (0, 1, 0)))
        house.handle(1, ("closed", (0, 0, 0)))
        house.handle(2, ("closed", (2, 0, 0)))
        bodies = [
            (0, ("open", (0, 1, 0), None)),
            (1, ("open", (0, 0, 0), (3, False))),
            (2, ("open", (2, 0, 0), None)),
        ]
        self.assertEqual(house.bodies(), bodies)
        self.assertIsNone(house.round)
        self.assert_stock(house, THREE, {(0, 0): 2, (0, 1): 1, (1, 0): 1})

    def test_counts_go_back_in_ascending_order_as_far_as_the_stock_has_them(self):
        setup = ((4,), 2, 4, ((1, 1),), 0)
        nights = [(0, 0, 0), (1, 0, 0), (2, 0, 0), (3, 0, 0), (3, 0, 1), (3, 0, 1), (0, 0, 1)]
        house = house_with_nights_given(setup, nights)
        house.handle(2, ("ask", 0, (((0, 0), 2), ((0, 1), 3))))
        house.bodies()
        house.handle(3, ("closed", (1, 2)))
        house.handle(2, ("closed", (1, 0)))
        house.handle(1, ("closed", (1, 0)))
        house.handle(0, ("closed", (1, 1)))
        # Two of the four nights 0 are taken, and three of the four nights 1, of which one was in stock.
        bodies = [
            (0, ("open", (1, 1), None)),
            (1, ("open", (1, 0), None)),
            (2, ("open", (0, 0), (0, True))),
            (3, ("open", (0, 0), None)),
        ]
        self.assertEqual(house.bodies(), bodies)
        self.assert_stock(house, setup, {(0, 0): 4, (0, 1): 4})

    def test_a_seller_gets_a_part_of_its_count_and_the_rest_stays_in_stock(self):
        house = house_with_nights_given(ONE, [(0, 0, 0)] * 3)
        house.handle(0, ("ask", 1, (((0, 0), 2),)))
        house.bodies()
        house.handle(0, ("closed", (3,)))
        self.assertEqual(house.bodies(), [(0, ("open", (2,), (1, True)))])
        self.assert_stock(house, ONE, {(0, 0): 4})
        house.handle(0, ("ask", 2, (((0, 1), 1),)))
        house.handle(0, ("closed", (0,)))
        self.assert_stock(house, ONE, {(0, 0): 4, (0, 1): 1})

    def test_the_next_ask_begins_its_round_behind_the_opens(self):
        house = House(THREE)
        other = (((1, 2), 2),)
        for seller, number, lack in ((1, 5, LACK), (2, 0, other), (1, 6, LACK)):
            house.handle(seller, ("ask", number, lack))
        house.bodies()
        for seller in (2, 0, 1):
            house.handle(seller, ("closed", (0, 0, 0)))
        opens = [(seller, ("open", (0, 0, 0), (5, True) if seller == 1 else None)) for seller in range(3)]
        closes = [(seller, ("close", ((1, 2),))) for seller in range(3)]
        self.assertEqual(house.bodies(), opens + closes)
        self.assertEqual(house.round, (2, 0, other))
        self.assertEqual(house.queue, [(1, 6, LACK)])

    def test_counts_of_the_round_before_do_not_count(self):
        house = House(THREE)
        for number in range(2):
            house.handle(0, ("ask", number, (((0, 0), 1),)))
        for seller in range(3):
            house.handle(seller, ("closed", (0,)))
        house.bodies()
        for seller in range(2):
            house.handle(seller, ("closed", (0,)))
            self.assertEqual(house.bodies(), [])
        house.handle(2, ("closed", (0,)))
        bodies = [(0, ("open", (0,), (1, True))), (1, ("open", (0,), None)), (2, ("open", (0,), None))]
        self.assertEqual(house.bodies(), bodies)
        self.assertIsNone(house.round)
        self.assert_stock(house, THREE, {(0, 0): 2})

    def test_rooms_that_no_inn_has_are_refused(self):
        house = House(SMALLEST)
        house.handle(0, ("ask", 0, (((0, 0), 1),)))
        house.handle(0, ("closed", (0,)))
        bodies = [(0, ("close", ((0, 0),))), (0, ("open", (0,), (0, False)))]
        self.assertEqual(house.bodies(), bodies)
        self.assertEqual(house.stock, {(0, 0): 0})


class ListsTest(HouseCase):
    def test_bodies_are_returned_once_and_their_list_is_the_callers(self):
        house = House(SETUP)
        house.bodies().append("x")
        house.want(0, 0, 0)
        bodies = house.bodies()
        self.assertEqual(bodies, [(0, ("want", 0, 0))])
        bodies.clear()
        self.assertEqual(house.bodies(), [])
        house.want(1, 1, 1)
        self.assertEqual(bodies, [])
        self.assertEqual(house.bodies(), [(1, ("want", 1, 1))])

    def test_houses_share_nothing(self):
        first = House(SETUP)
        second = House(SETUP)
        first.give(0, 0, 0)
        first.handle(0, ("entry", ("cancelled", 0, 0, 0)))
        first.handle(0, ("ask", 0, LACK))
        first.handle(0, ("ask", 1, LACK))
        first.handle(0, ("closed", (0, 0, 0)))
        self.assert_stock(second, SETUP, {})
        self.assertEqual((second.books, second.queue, second.round), ([[], []], [], None))
        self.assertEqual(second.bodies(), [])


if __name__ == "__main__":
    unittest.main()
