"""Points 2, 3, 4 and 17: what a world is made of, and what makes none."""

import unittest

from manydoors.errors import BadDeed, BadSetup
from manydoors.house import House
from manydoors.seller import Seller
from manydoors.wire import Wire
from manydoors.world import World
from tests.samples import LARGEST, SETUP, SMALLEST, cells_of
from tests.worlds import ask, choice, deliver_all, move, state_of

PARTY = ((0, 0, 2),)
WISH = ("wish", PARTY)


class NewWorldTest(unittest.TestCase):
    def test_fields_at_first(self):
        for setup in (SMALLEST, SETUP, LARGEST):
            world = World(setup, [[] for _ in range(setup[2])])
            many = setup[2]
            self.assertEqual(world.setup, setup)
            self.assertIsInstance(world.house, House)
            self.assertEqual(world.house.stock, {cell: setup[0][cell[0]] for cell in cells_of(setup)})
            self.assertEqual(world.house.books, [[]] * many)
            self.assertEqual([type(seller) for seller in world.sellers], [Seller] * many)
            self.assertEqual([set(seller.free.values()) for seller in world.sellers], [{0}] * many)
            self.assertEqual(world.net, [])
            self.assertEqual(world.history, [])
            self.assertEqual(world.down, [False] * (many + 1))
            self.assertEqual(world.deeds, [[]] * many)
            self.assertEqual(world.asked, [0] * many)
            wires = world.house_wires + world.seller_wires
            self.assertEqual((len(world.house_wires), len(world.seller_wires)), (many, many))
            self.assertEqual([type(wire) for wire in wires], [Wire] * (2 * many))
            self.assertEqual({(wire.sent, tuple(wire.outbox), wire.expected) for wire in wires}, {(0, (), 0)})
            self.assertEqual(len({id(wire) for wire in wires}), 2 * many)

    def test_the_lists_of_deeds_are_copied(self):
        deeds = [[WISH], []]
        world = World(SETUP, deeds)
        self.assertEqual(world.deeds, [[WISH], []])
        deeds[0].append(("cancel", 0))
        deeds[1].append(WISH)
        deeds.append([])
        self.assertEqual(world.deeds, [[WISH], []])
        world.deeds[0].clear()
        self.assertEqual(deeds, [[WISH, ("cancel", 0)], [WISH], []])

    def test_a_world_leaves_its_arguments_as_they_are(self):
        deeds = [[WISH, ("cancel", 0), ("change", 0, PARTY)], [WISH]]
        world = World(SETUP, deeds)
        for step in (ask(0), move(SETUP, 1, 0, 0), ask(0), ask(1), ask(0)):
            world.choose(step)
            deliver_all(world)
        self.assertIs(world.settle(), True)
        self.assertEqual(deeds, [[WISH, ("cancel", 0), ("change", 0, PARTY)], [WISH]])

    def test_worlds_share_nothing(self):
        first = World(SETUP, [[WISH], []])
        second = World(SETUP, [[], []])
        before = state_of(second)
        for step in (ask(0), move(SETUP, 1, 1, 1), choice(7, 0), choice(6, 1)):
            first.choose(step)
        self.assertEqual(state_of(second), before)

    def test_the_edges_that_are_deeds(self):
        row = [WISH] + [("change", number, PARTY) for number in range(5)] + [("cancel", 5), ("cancel", 0)]
        self.assertEqual(World(SETUP, [row, row]).deeds, [row, row])
        largest = ("wish", ((0, 0, 12),) * 4)
        self.assertEqual(World(LARGEST, [[largest], [], [largest], []]).deeds, [[largest], [], [largest], []])

    def test_deeds_that_are_appended_are_not_checked(self):
        world = World(SETUP, [[], []])
        world.deeds[1].extend([("cancel", 0), ("change", 7, PARTY)])
        world.choose(ask(1))
        world.choose(ask(1))
        self.assertEqual([row[3] for row in world.history if row[0] == "told"], [False, False])
        self.assertEqual(world.asked, [0, 2])


class WrongWorldTest(unittest.TestCase):
    def test_what_is_not_a_setup(self):
        prices = SETUP[3]
        wrong = [
            None,
            (),
            list(SETUP),
            SETUP[:4],
            SETUP + (0,),
            ((), 4, 2, (), 15),
            ((2, 5), 4, 2, prices, 15),
            ((2, True), 4, 2, prices, 15),
            ((2, 1), 0, 2, ((), ()), 15),
            ((2, 1), 4, 0, prices, 15),
            ((2, 1), 4, 5, prices, 15),
            ((2, 1), 4, 2, prices[:1], 15),
            ((2, 1), 4, 2, prices, 101),
            ((2, 1), 4, 2, prices, -1),
        ]
        for setup in wrong:
            with self.subTest(setup=setup), self.assertRaises(BadSetup):
                World(setup, [[], []])

    def test_the_setup_is_checked_before_the_deeds(self):
        with self.assertRaises(BadSetup):
            World(((9,), 1, 1, ((0,),), 0), [["no deed"]])
        with self.assertRaises(BadSetup):
            World(None, None)

    def test_another_number_of_lists(self):
        for deeds in ([], [[]], [[], [], []], None, [[], None], [[], ("cancel", 0)]):
            with self.subTest(deeds=deeds), self.assertRaises(BadDeed):
                World(SETUP, deeds)
        with self.assertRaises(BadDeed):
            World(SMALLEST, [[], []])

    def test_what_is_no_deed_of_the_setup(self):
        wrong = [
            None,
            "wish",
            (),
            ("wish",),
            ("wish", ()),
            ("wish", ((2, 0, 1),)),
            ("wish", ((0, 0, 5),)),
            ("wish", ((0, 1, 1),)),
            ("wish", ((0, 1, 2), (0, 0, 1))),
            ("wish", ((0, 0, 1),) * 5),
            ("wish", [(0, 0, 1)]),
            ["wish", PARTY],
            ("wish", PARTY, 0),
            ("cancel", -1),
            ("cancel", False),
            ("cancel", None),
            ("change", 0),
            ("change", 0, ()),
            ("change", 0, ((0, 0, 5),)),
            ("book", PARTY),
        ]
        for deed in wrong:
            for deeds in ([[WISH, deed], []], [[], [WISH, WISH, deed, WISH]]):
                with self.subTest(deeds=deeds), self.assertRaises(BadDeed):
                    World(SETUP, deeds)

    def test_a_number_that_is_not_less_than_its_own(self):
        for deed in (("cancel", 0), ("cancel", 1), ("change", 0, PARTY), ("change", 9, PARTY)):
            with self.subTest(deed=deed), self.assertRaises(BadDeed):
                World(SETUP, [[deed], []])
        for deed in (("cancel", 2), ("cancel", 3), ("change", 2, PARTY), ("change", 3, PARTY)):
            with self.subTest(deed=deed), self.assertRaises(BadDeed):
                World(SETUP, [[WISH], [WISH, WISH, deed]])


if __name__ == "__main__":
    unittest.main()
