"""Points 20 and 24: who holds the rooms of a cell."""

import unittest

from manydoors.world import World
from tests.samples import LARGEST, SETUP, SMALLEST, cells_of
from tests.worlds import ask, choice, deliver, deliver_all, move, tick, turn


def world_with(first=(), second=()):
    return World(SETUP, [list(first), list(second)])


def arrive(world, desk, name):
    """Deliver the first data letter to the desk with a body of this name."""
    for at, letter in enumerate(world.net):
        if letter[0] == desk and letter[2] == "data" and letter[4][0] == name:
            world.choose(deliver(at))
            return
    raise AssertionError("there is no such letter")


class HandsTest(unittest.TestCase):
    def test_all_rooms_are_in_stock_at_first(self):
        for setup in (SMALLEST, SETUP, LARGEST):
            world = World(setup, [[] for _ in range(setup[2])])
            for kind, night in cells_of(setup):
                many = setup[0][kind]
                self.assertEqual(world.hands(kind, night), {("house",): many} if many else {})

    def test_give(self):
        world = world_with()
        world.choose(move(SETUP, 0, 0, 0))
        world.choose(move(SETUP, 1, 0, 0))
        world.choose(move(SETUP, 1, 0, 1))
        self.assertEqual(world.hands(0, 0), {("letter", -1, 0, 0): 1, ("letter", -1, 1, 0): 1})
        self.assertEqual(world.hands(0, 1), {("house",): 1, ("letter", -1, 1, 1): 1})
        self.assertEqual(world.hands(1, 0), {("house",): 1})
        self.assertEqual(world.hands(0, 2), {("house",): 2})
        world.choose(deliver(1))
        self.assertEqual(world.hands(0, 0), {("letter", -1, 0, 0): 1, ("seller", 1): 1})

    def test_a_body_is_under_way_until_it_is_handled(self):
        world = world_with()
        world.choose(move(SETUP, 0, 1, 2))
        world.choose(choice(5, 0))
        world.choose(tick(-1))
        self.assertEqual(world.hands(1, 2), {("letter", -1, 0, 0): 1})
        world.net.clear()
        self.assertEqual(world.hands(1, 2), {("letter", -1, 0, 0): 1})
        world.choose(tick(-1))
        world.choose(turn(0))
        world.choose(deliver(0))
        self.assertEqual(world.hands(1, 2), {("letter", -1, 0, 0): 1})
        world.choose(turn(0))
        world.choose(tick(-1))
        world.choose(deliver(0))
        self.assertEqual(len(world.house_wires[0].outbox), 1)
        self.assertEqual(world.hands(1, 2), {("seller", 0): 1})

    def test_back(self):
        world = world_with()
        for times in (0, 1, 1):
            world.choose(move(SETUP, 1, 0, 3, times))
        for _ in range(3):
            world.choose(deliver(0))
        self.assertEqual(world.hands(0, 3), {("house",): 1, ("letter", 1, -1, 0): 1})
        self.assertEqual(world.hands(0, 2), {("house",): 2})
        arrive(world, -1, "back")
        self.assertEqual(world.hands(0, 3), {("house",): 2})

    def test_vouchers(self):
        world = world_with([("wish", ((0, 0, 2),)), ("wish", ((0, 0, 1),))], [("wish", ((0, 1, 2), (1, 0, 1)))])
        for seller, kind, night in ((0, 0, 0), (0, 0, 1), (0, 0, 0), (1, 0, 1), (1, 1, 0)):
            world.choose(move(SETUP, seller, kind, night))
        deliver_all(world)
        for seller in (0, 1, 0):
            world.choose(ask(seller))
        self.assertEqual(world.hands(0, 0), {("party", 0, 0): 1, ("party", 0, 1): 1})
        self.assertEqual(world.hands(0, 1), {("party", 0, 0): 1, ("party", 1, 0): 1})
        self.assertEqual(world.hands(1, 0), {("party", 1, 0): 1})
        self.assertEqual(world.hands(1, 1), {("house",): 1})

    def test_a_voucher_may_need_two_rooms(self):
        world = world_with([("wish", ((0, 0, 1), (0, 0, 2)))])
        world.choose(ask(0))
        deliver_all(world)
        self.assertEqual(world.hands(0, 0), {("party", 0, 0): 2})
        self.assertEqual(world.hands(0, 1), {("house",): 1, ("party", 0, 0): 1})

    def round_of_two_cells(self):
        """Return a world in which the seller 1 asks for two rooms that the seller 0 has in part."""
        world = world_with([], [("wish", ((0, 1, 3), (0, 2, 3), (1, 2, 3)))])
        for seller, kind, night in ((0, 0, 1), (0, 0, 1), (0, 0, 2), (1, 1, 2), (1, 0, 3)):
            world.choose(move(SETUP, seller, kind, night))
        deliver_all(world)
        world.choose(ask(1))
        arrive(world, -1, "ask")
        return world

    def test_counts_that_are_closed_are_in_their_letters(self):
        world = self.round_of_two_cells()
        self.assertEqual(world.hands(0, 1), {("seller", 0): 2})
        arrive(world, 0, "close")
        arrive(world, 1, "close")
        self.assertEqual(world.hands(0, 1), {("letter", 0, -1, 0): 2})
        self.assertEqual(world.hands(0, 2), {("house",): 1, ("letter", 0, -1, 0): 1})
        self.assertEqual(world.hands(1, 2), {("letter", 1, -1, 1): 1})
        self.assertEqual(world.hands(0, 3), {("house",): 1, ("seller", 1): 1})
        arrive(world, -1, "closed")
        self.assertEqual(world.hands(0, 1), {("house",): 2})
        self.assertEqual(world.hands(0, 2), {("house",): 2})

    def test_a_grant_under_way_has_the_lack_beside_the_counts(self):
        world = self.round_of_two_cells()
        for desk, name in ((0, "close"), (1, "close"), (-1, "closed"), (-1, "closed")):
            arrive(world, desk, name)
        self.assertEqual(world.hands(0, 1), {("letter", -1, 0, 4): 1, ("granted", 1, 0): 1})
        self.assertEqual(world.hands(0, 2), {("granted", 1, 0): 2})
        self.assertEqual(world.hands(1, 2), {("granted", 1, 0): 1})
        self.assertEqual(world.hands(0, 3), {("house",): 1, ("seller", 1): 1})
        arrive(world, 1, "open")
        self.assertEqual(world.hands(0, 1), {("letter", -1, 0, 4): 1, ("party", 1, 0): 1})
        self.assertEqual(world.hands(0, 2), {("party", 1, 0): 2})
        arrive(world, 0, "open")
        self.assertEqual(world.hands(0, 1), {("seller", 0): 1, ("party", 1, 0): 1})

    def test_a_refusal_under_way_has_the_counts_alone(self):
        world = world_with([("wish", ((1, 0, 1),))], [("wish", ((0, 0, 1), (1, 0, 1)))])
        for seller, kind in ((0, 1), (0, 0), (1, 0)):
            world.choose(move(SETUP, seller, kind, 0))
        deliver_all(world)
        world.choose(ask(0))
        world.choose(ask(1))
        arrive(world, -1, "ask")
        for desk, name in ((-1, "entry"), (0, "close"), (1, "close"), (-1, "closed"), (-1, "closed")):
            arrive(world, desk, name)
        self.assertEqual(world.hands(1, 0), {("party", 0, 0): 1})
        self.assertEqual(world.hands(0, 0), {("letter", -1, 0, 3): 1, ("letter", -1, 1, 2): 1})
        deliver_all(world)
        self.assertEqual(world.hands(0, 0), {("seller", 0): 1, ("seller", 1): 1})

    def test_a_change_is_granted_what_it_needs_more(self):
        world = world_with([("wish", ((0, 0, 2),)), ("change", 0, ((0, 1, 2), (0, 1, 3)))])
        world.choose(ask(0))
        deliver_all(world)
        world.choose(ask(0))
        for desk, name in ((-1, "ask"), (0, "close"), (1, "close"), (-1, "closed"), (-1, "closed")):
            arrive(world, desk, name)
        self.assertEqual(world.hands(0, 0), {("house",): 1, ("party", 0, 0): 1})
        self.assertEqual(world.hands(0, 1), {("party", 0, 0): 1, ("granted", 0, 1): 1})
        self.assertEqual(world.hands(0, 2), {("house",): 1, ("granted", 0, 1): 1})
        deliver_all(world)
        self.assertEqual(world.hands(0, 0), {("house",): 1, ("seller", 0): 1})
        self.assertEqual(world.hands(0, 1), {("party", 0, 0): 2})
        self.assertEqual(world.hands(0, 2), {("house",): 1, ("party", 0, 0): 1})

    def test_bodies_without_nights_are_in_no_hands(self):
        one = ((1, 0, 1),)
        world = world_with([("wish", one), ("wish", ((0, 3, 4),)), ("wish", one)], [("wish", one)])
        world.choose(move(SETUP, 0, 0, 3))
        deliver_all(world)
        world.choose(ask(0))
        arrive(world, -1, "ask")
        self.assertEqual([body[0] for _, body in world.house_wires[1].outbox], ["close"])
        self.assertEqual(world.hands(1, 0), {("house",): 1})
        # Now an entry is under way from a seller, and wants to both, while the cell is closed.
        arrive(world, 0, "close")
        for step in (ask(0), ask(0), ask(1), move(SETUP, 0, 1, 0, 1), move(SETUP, 1, 1, 0, 1)):
            world.choose(step)
        arrive(world, -1, "closed")
        self.assertEqual([body[0] for _, body in world.seller_wires[0].outbox], ["ask", "closed", "entry"])
        self.assertEqual([body[0] for _, body in world.seller_wires[1].outbox], ["ask"])
        self.assertEqual([body[0] for _, body in world.house_wires[1].outbox], ["close", "want"])
        self.assertEqual(world.hands(1, 0), {("house",): 1})
        self.assertEqual(world.hands(0, 3), {("house",): 1, ("party", 0, 1): 1})
        deliver_all(world)
        self.assertEqual(world.hands(1, 0), {("party", 0, 0): 1})

    def test_the_dictionary_is_a_new_one(self):
        world = world_with()
        hands = world.hands(0, 0)
        hands[("house",)] = 7
        self.assertEqual(world.hands(0, 0), {("house",): 2})
        self.assertEqual(world.house.stock[(0, 0)], 2)


if __name__ == "__main__":
    unittest.main()
