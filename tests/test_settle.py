"""Points 17 and 19: settle brings all desks up, and lets them tick and get their letters until all is known."""

import unittest

from manydoors.world import World
from tests.samples import LARGEST, SETUP, SMALLEST
from tests.worlds import ask, deliver_all, move, state_of, tick, turn

SMALL = ((0, 0, 1),)
WISH = ("wish", SMALL)
SOLD = ("sold", 0, SMALL, 10, 1)


class CountedList(list):
    """An outbox that counts how often it is gone through."""

    times = 0

    def __iter__(self):
        self.times += 1
        return super().__iter__()


class ExpectingList(list):
    """An empty outbox: whenever it is gone through, a wire expects a greater number."""

    def __init__(self, wire):
        super().__init__()
        self.wire = wire

    def __iter__(self):
        self.wire.expected += 1
        return super().__iter__()


class SettleTest(unittest.TestCase):
    def assert_settled(self, world):
        self.assertEqual(world.net, [])
        self.assertEqual([wire.outbox for wire in world.house_wires + world.seller_wires], [[]] * 2 * world.setup[2])
        self.assertEqual(world.down, [False] * (world.setup[2] + 1))
        self.assertEqual(world.house.books, [seller.book for seller in world.sellers])

    def test_a_new_world_is_settled(self):
        for setup in (SMALLEST, SETUP, LARGEST):
            world = World(setup, [[] for _ in range(setup[2])])
            before = state_of(world)
            self.assertIs(world.settle(), True)
            self.assertEqual(state_of(world), before)

    def test_all_desks_come_up(self):
        world = World(SETUP, [[WISH], []])
        for step in (ask(0), turn(0), turn(1), turn(-1)):
            world.choose(step)
        self.assertIs(world.settle(), True)
        self.assert_settled(world)
        self.assertEqual(world.history, [("asked", 0, 0, WISH), ("told", 0, 0, True)])

    def test_no_deeds_are_asked(self):
        world = World(SETUP, [[WISH, WISH], [WISH]])
        world.choose(ask(0))
        self.assertIs(world.settle(), True)
        self.assertEqual(world.asked, [1, 0])
        self.assertEqual([row[:3] for row in world.history], [("asked", 0, 0), ("told", 0, 0)])

    def test_what_was_lost_is_sent_again(self):
        world = World(SETUP, [[WISH, ("cancel", 0)], []])
        world.choose(move(SETUP, 0, 0, 0))
        deliver_all(world)
        world.choose(ask(0))
        world.choose(ask(0))
        world.choose(move(SETUP, 1, 1, 1))
        world.net.clear()
        self.assertIs(world.settle(), True)
        self.assert_settled(world)
        self.assertEqual(world.house.books[0], [SOLD, ("cancelled", 0, 10, 1)])
        self.assertEqual(world.sellers[1].free[(1, 1)], 1)

    def test_the_net_is_emptied_although_all_is_acknowledged(self):
        world = World(SETUP, [[], []])
        for night in range(2):
            world.choose(move(SETUP, 0, 0, night))
        letters = list(world.net)
        deliver_all(world)
        world.net.extend(letters)
        self.assertIs(world.settle(), True)
        self.assert_settled(world)
        self.assertEqual([wire.sent for wire in world.house_wires], [2, 0])

    def test_the_house_ticks_first_and_letters_arrive_in_their_order(self):
        world = World(SETUP, [[WISH], [WISH]])
        world.choose(move(SETUP, 1, 1, 0))
        world.choose(ask(1))
        world.choose(ask(0))
        world.choose(move(SETUP, 0, 1, 1))
        world.net.clear()
        received = []
        watch_desks(world, received)
        self.assertIs(world.settle(), True)
        first = [
            (0, ("give", 1, 1)),
            (1, ("give", 1, 0)),
            (-1, 0, ("ask", 0, (((0, 0), 1),))),
            (-1, 1, ("ask", 0, (((0, 0), 1),))),
            (0, ("close", ((0, 0),))),
            (1, ("close", ((0, 0),))),
            (-1, 0, ("closed", (0,))),
            (-1, 1, ("closed", (0,))),
        ]
        self.assertEqual(received[:8], first)

    def test_letters_of_the_net_come_before_those_of_the_ticks(self):
        world = World(SETUP, [[WISH], [WISH]])
        world.choose(ask(1))
        world.choose(ask(0))
        received = []
        watch_desks(world, received)
        self.assertIs(world.settle(), True)
        asks = [row[:2] for row in received if row[0] == -1 and row[2][0] == "ask"]
        self.assertEqual(asks, [(-1, 1), (-1, 0)])

    def test_no_letters_are_removed_in_settle(self):
        world = World(SETUP, [[], []])
        for number in range(450):
            world.choose(move(SETUP, number % 2, 0, number % 4, 1))
        world.choose(tick(-1))
        self.assertEqual(len(world.net), 300)
        self.assertIs(world.settle(), True)
        self.assert_settled(world)
        self.assertEqual([wire.expected for wire in world.seller_wires], [225, 225])

    def test_one_round_is_enough_where_nothing_is_lost(self):
        world = World(SETUP, [[WISH], []])
        world.choose(ask(0))
        world.seller_wires[0].outbox = CountedList(world.seller_wires[0].outbox)
        outbox = world.seller_wires[0].outbox
        world.choose(turn(-1))
        self.assertIs(world.settle(), True)
        # Once in the tick of the round, and once for the ack.
        self.assertEqual(outbox.times, 2)

    def test_settle_gives_up_behind_300_rounds(self):
        # No desk does this by itself: a body whose number the house never comes to expect.
        world = World(SETUP, [[], []])
        outbox = CountedList([(5, ("entry", SOLD))])
        world.seller_wires[1].outbox = outbox
        self.assertIs(world.settle(), False)
        self.assertEqual(outbox.times, 300)
        self.assertEqual(world.net, [])
        self.assertEqual(world.house.books[1], [])

    def test_settle_is_true_if_the_last_round_is_enough(self):
        for number, settled in ((300, True), (301, False)):
            world = World(SETUP, [[], []])
            world.seller_wires[1].outbox = [(number, ("entry", SOLD))]
            world.house_wires[0].outbox = ExpectingList(world.house_wires[1])
            self.assertIs(world.settle(), settled)
            self.assertEqual(world.house.books[1], [SOLD] if settled else [])


def watch_desks(world, received):
    """Put what each desk handles into the list."""

    def watch_house(plain):
        def handle(seller, body):
            received.append((-1, seller, body))
            plain(seller, body)

        return handle

    def watch_seller(number, plain):
        def handle(body):
            received.append((number, body))
            plain(body)

        return handle

    world.house.handle = watch_house(world.house.handle)
    for number, seller in enumerate(world.sellers):
        seller.handle = watch_seller(number, seller.handle)


if __name__ == "__main__":
    unittest.main()
