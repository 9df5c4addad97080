"""Points 8, 17 and 18: what each choice does."""

import unittest

from manydoors.world import World
from tests.samples import SETUP
from tests.worlds import ask, choice, deliver, deliver_all, move, state_of, tick, turn

SMALL = ((0, 0, 1),)
WISH = ("wish", SMALL)
SOLD = ("sold", 0, SMALL, 10, 1)
LACK = (((0, 0), 1),)
CELLS = ((0, 0),)


def world_with(first=(), second=()):
    return World(SETUP, [list(first), list(second)])


class ChoiceCase(unittest.TestCase):
    def assert_nothing(self, world, *choices):
        """None of the choices changes anything."""
        before = state_of(world)
        for each in choices:
            world.choose(each)
            self.assertEqual(state_of(world), before, each)


class AskTest(ChoiceCase):
    def test_the_next_deed_of_the_list_is_asked(self):
        world = world_with([WISH, ("cancel", 0)], [WISH])
        world.choose(ask(0))
        self.assertEqual(world.history, [("asked", 0, 0, WISH)])
        self.assertEqual(world.net, [(-1, 0, "data", 0, ("ask", 0, LACK))])
        self.assertEqual(world.asked, [1, 0])
        world.choose(ask(0))
        rows = [("asked", 0, 0, WISH), ("asked", 0, 1, ("cancel", 0)), ("told", 0, 1, False)]
        self.assertEqual(world.history, rows)
        self.assertEqual(world.asked, [2, 0])
        self.assertEqual(world.sellers[0].asked, {0: WISH})
        self.assertEqual(world.sellers[1].asked, {})

    def test_the_seller_is_the_argument_modulo_their_number(self):
        world = world_with([WISH] * 2, [WISH] * 2)
        for argument in (3, 10**6, 1, 7):
            world.choose(choice(8, argument))
        self.assertEqual([row[1:3] for row in world.history], [(1, 0), (0, 0), (1, 1)])

    def test_the_answer_is_told_behind_the_asking(self):
        world = world_with([WISH, ("cancel", 0)])
        world.choose(move(SETUP, 0, 0, 0))
        deliver_all(world)
        world.choose(ask(0))
        world.choose(ask(0))
        rows = [("asked", 0, 0, WISH), ("told", 0, 0, True), ("asked", 0, 1, ("cancel", 0)), ("told", 0, 1, True)]
        self.assertEqual(world.history, rows)
        entries = [
            (-1, 0, "data", 0, ("entry", SOLD)),
            (-1, 0, "data", 1, ("entry", ("cancelled", 0, 10, 1))),
        ]
        self.assertEqual(world.net, entries)

    def test_nothing_is_asked_without_a_deed_or_of_a_seller_that_is_down(self):
        world = world_with([WISH], [WISH])
        world.choose(ask(0))
        world.choose(turn(1))
        self.assert_nothing(world, ask(0), ask(1), choice(8, 5))
        world.choose(turn(1))
        world.choose(ask(1))
        self.assertEqual(world.asked, [1, 1])

    def test_deeds_that_are_appended_are_asked(self):
        world = world_with()
        self.assert_nothing(world, ask(0))
        world.deeds[0].append(WISH)
        world.choose(ask(0))
        self.assertEqual(world.history, [("asked", 0, 0, WISH)])

    def test_a_house_that_is_down_does_not_hinder_asking(self):
        world = world_with([WISH])
        world.choose(turn(-1))
        world.choose(ask(0))
        self.assertEqual(world.history, [("asked", 0, 0, WISH)])
        self.assertEqual(len(world.net), 1)


class MoveTest(ChoiceCase):
    def test_give_takes_its_parts_of_the_argument_one_after_another(self):
        # s = 1, then k = 1, then t = 2, where e is even.
        for argument in (1 + 2 * (1 + 2 * 2), 1 + 2 * (1 + 2 * (2 + 4 * 2))):
            world = world_with()
            world.choose(choice(9, argument))
            self.assertEqual(world.net, [(1, -1, "data", 0, ("give", 1, 2))])
            self.assertEqual(world.house.stock[(1, 2)], 0)
            self.assertEqual(sum(world.house.stock.values()), 4 * 3 - 1)

    def test_want_where_the_rest_is_odd(self):
        for argument in (1 + 2 * (0 + 2 * (3 + 4)), 1 + 2 * (0 + 2 * (3 + 4 * 5))):
            world = world_with()
            world.choose(choice(9, argument))
            self.assertEqual(world.net, [(1, -1, "data", 0, ("want", 0, 3))])
            self.assertEqual(sum(world.house.stock.values()), 4 * 3)

    def test_each_cell_and_seller_is_reached(self):
        setup = ((1, 1, 1), 3, 4, ((0,) * 3,) * 3, 0)
        world = World(setup, [[] for _ in range(4)])
        for argument in range(2 * 4 * 3 * 3):
            world.choose(choice(9, argument))
        gives = [(0, -1, "give", kind, night) for night in range(3) for kind in range(3)]
        wants = [(s, -1, "want", kind, night) for night in range(3) for kind in range(3) for s in range(4)]
        self.assertEqual([letter[:2] + letter[4] for letter in world.net], gives + wants)

    def test_nothing_is_given_from_an_empty_stock_or_in_a_round(self):
        world = world_with([WISH])
        world.choose(move(SETUP, 0, 1, 3))
        self.assert_nothing(world, move(SETUP, 0, 1, 3), move(SETUP, 1, 1, 3, 2))
        world.choose(ask(0))
        deliver_all_to_house(world)
        self.assertEqual(world.house.round, (0, 0, LACK))
        self.assert_nothing(world, move(SETUP, 0, 0, 0), move(SETUP, 1, 0, 2))
        world.choose(move(SETUP, 1, 0, 2, 1))
        self.assertEqual(world.net[-1], (1, -1, "data", 1, ("want", 0, 2)))

    def test_a_house_that_is_down_moves_nothing(self):
        world = world_with()
        world.choose(turn(-1))
        self.assert_nothing(world, move(SETUP, 0, 0, 0), move(SETUP, 0, 0, 0, 1))
        world.choose(turn(-1))
        world.choose(move(SETUP, 0, 0, 0))
        self.assertEqual(len(world.net), 1)

    def test_a_seller_that_is_down_is_sent_letters_nevertheless(self):
        world = world_with()
        world.choose(turn(0))
        world.choose(move(SETUP, 0, 0, 0))
        world.choose(move(SETUP, 0, 0, 1, 1))
        self.assertEqual([letter[4] for letter in world.net], [("give", 0, 0), ("want", 0, 1)])


def deliver_all_to_house(world):
    """Deliver each letter to the house that is in the net now, and no other one."""
    for letter in [letter for letter in world.net if letter[0] == -1]:
        world.choose(deliver(world.net.index(letter)))


class DeliverTest(ChoiceCase):
    def test_an_empty_net(self):
        world = world_with([WISH])
        self.assert_nothing(world, *[choice(action, argument) for action in range(6) for argument in (0, 1, 5)])

    def test_the_kinds_from_0_to_3_deliver_the_item_modulo_the_length(self):
        for action in range(4):
            for argument in (1, 4, 3 * 10**6 + 1):
                world = world_with()
                for night in range(3):
                    world.choose(move(SETUP, night % 2, 0, night))
                first, _, last = world.net
                world.choose(choice(action, argument))
                self.assertEqual(world.net, [first, last, (-1, 1, "ack", 0)])
                self.assertEqual(world.sellers[1].free[(0, 1)], 1)
                self.assertEqual(world.sellers[0].free[(0, 0)], 0)

    def test_a_letter_with_the_expected_number_is_handled_and_acknowledged(self):
        world = world_with()
        world.choose(move(SETUP, 1, 0, 2))
        world.choose(deliver(0))
        self.assertEqual(world.net, [(-1, 1, "ack", 0)])
        self.assertEqual(world.seller_wires[1].expected, 1)
        self.assertEqual(world.house_wires[1].outbox, [(0, ("give", 0, 2))])
        world.choose(deliver(0))
        self.assertEqual(world.net, [])
        self.assertEqual(world.house_wires[1].outbox, [])
        self.assertEqual(world.house_wires[1].sent, 1)

    def test_the_ack_stands_behind_what_handling_sends(self):
        world = world_with([WISH], [])
        world.choose(ask(0))
        world.choose(deliver(0))
        closes = [(seller, -1, "data", 0, ("close", CELLS)) for seller in range(2)]
        self.assertEqual(world.net, closes + [(0, -1, "ack", 0)])
        world.choose(deliver(1))
        letters = [closes[0], (0, -1, "ack", 0), (-1, 1, "data", 0, ("closed", (0,))), (-1, 1, "ack", 0)]
        self.assertEqual(world.net, letters)

    def test_a_letter_ahead_of_its_turn_does_nothing_and_is_not_acknowledged(self):
        world = world_with()
        world.choose(move(SETUP, 0, 0, 0))
        world.choose(move(SETUP, 0, 0, 1))
        first = world.net[0]
        world.choose(deliver(1))
        self.assertEqual(world.net, [first])
        self.assertEqual(world.seller_wires[0].expected, 0)
        self.assertEqual(set(world.sellers[0].free.values()), {0})
        self.assertEqual(len(world.house_wires[0].outbox), 2)

    def test_a_letter_that_comes_again_is_only_acknowledged(self):
        world = world_with()
        for night in range(3):
            world.choose(move(SETUP, 0, 0, night))
        first = world.net[0]
        world.choose(choice(5, 0))
        for _ in range(3):
            world.choose(deliver(0))
        free = dict(world.sellers[0].free)
        self.assertEqual(world.net[0], first)
        world.choose(deliver(0))
        self.assertEqual(world.net, [(-1, 0, "ack", number) for number in (0, 1, 2, 2)])
        self.assertEqual(world.sellers[0].free, free)
        self.assertEqual(world.seller_wires[0].expected, 3)

    def test_an_ack_removes_all_up_to_its_number(self):
        world = world_with()
        for night in range(3):
            world.choose(move(SETUP, 0, 0, night))
        for _ in range(3):
            world.choose(deliver(0))
        world.choose(deliver(1))
        self.assertEqual(world.house_wires[0].outbox, [(2, ("give", 0, 2))])
        world.choose(deliver(0))
        self.assertEqual(world.house_wires[0].outbox, [(2, ("give", 0, 2))])
        world.choose(deliver(0))
        self.assertEqual(world.house_wires[0].outbox, [])
        self.assertEqual(world.net, [])

    def test_each_seller_has_its_own_wires(self):
        world = world_with([WISH], [WISH])
        for step in (move(SETUP, 1, 1, 1), ask(1), ask(0), move(SETUP, 0, 1, 2)):
            world.choose(step)
        letters = [
            (1, -1, "data", 0, ("give", 1, 1)),
            (-1, 1, "data", 0, ("ask", 0, LACK)),
            (-1, 0, "data", 0, ("ask", 0, LACK)),
            (0, -1, "data", 0, ("give", 1, 2)),
        ]
        self.assertEqual(world.net, letters)
        world.choose(deliver(1))
        self.assertEqual([wire.expected for wire in world.house_wires], [0, 1])
        self.assertEqual(world.house.round, (1, 0, LACK))
        world.choose(deliver(1))
        self.assertEqual([wire.expected for wire in world.house_wires], [1, 1])
        self.assertEqual(world.house.queue, [(0, 0, LACK)])

    def test_crossed_letters_wait_for_those_before_them(self):
        world = world_with([WISH, ("cancel", 0)])
        world.choose(move(SETUP, 0, 0, 0))
        deliver_all(world)
        world.choose(ask(0))
        world.choose(ask(0))
        world.choose(deliver(1))
        self.assertEqual(world.house.books[0], [])
        world.choose(tick(0))
        deliver_all(world)
        self.assertEqual(world.house.books[0], [SOLD, ("cancelled", 0, 10, 1)])

    def test_what_is_told_in_handling_comes_at_once(self):
        world = world_with([WISH, WISH, ("cancel", 0)])
        world.choose(ask(0))
        deliver_all_to_house(world)
        for _ in range(3):
            world.choose(deliver(0))
        world.choose(ask(0))
        self.assertEqual(world.sellers[0].waiting, [(1, WISH)])
        deliver_all(world)
        rows = [("asked", 0, 0, WISH), ("asked", 0, 1, WISH), ("told", 0, 0, True), ("told", 0, 1, True)]
        self.assertEqual(world.history, rows)


class LossTest(ChoiceCase):
    def test_kind_4_removes_the_item(self):
        for argument in (1, 4):
            world = world_with()
            for night in range(3):
                world.choose(move(SETUP, 0, 0, night))
            first, _, last = world.net
            world.choose(choice(4, argument))
            self.assertEqual(world.net, [first, last])
            self.assertEqual(world.seller_wires[0].expected, 0)
            self.assertEqual(len(world.house_wires[0].outbox), 3)

    def test_kind_4_does_not_deliver_a_letter_that_is_expected(self):
        world = world_with([WISH])
        world.choose(move(SETUP, 0, 0, 0))
        world.choose(ask(0))
        world.choose(choice(4, 0))
        world.choose(choice(4, 0))
        self.assertEqual(world.net, [])
        self.assertEqual(world.seller_wires[0].expected, 0)
        self.assertEqual(world.sellers[0].free[(0, 0)], 0)
        self.assertEqual(world.house_wires[0].expected, 0)
        self.assertIsNone(world.house.round)

    def test_kind_5_puts_a_copy_at_the_end(self):
        for argument in (1, 4):
            world = world_with()
            for night in range(3):
                world.choose(move(SETUP, 0, 0, night))
            letters = list(world.net)
            world.choose(choice(5, argument))
            self.assertEqual(world.net, letters + [letters[1]])

    def test_a_letter_to_a_desk_that_is_down_is_lost(self):
        world = world_with([WISH])
        world.choose(move(SETUP, 1, 0, 0))
        world.choose(ask(0))
        world.choose(turn(1))
        world.choose(deliver(0))
        self.assertEqual(world.seller_wires[1].expected, 0)
        self.assertEqual(world.sellers[1].free[(0, 0)], 0)
        world.choose(turn(-1))
        world.choose(deliver(0))
        self.assertEqual(world.net, [])
        self.assertEqual(world.house_wires[0].expected, 0)
        self.assertIsNone(world.house.round)

    def test_an_ack_to_a_desk_that_is_down_is_lost(self):
        world = world_with()
        world.choose(move(SETUP, 0, 0, 0))
        world.choose(deliver(0))
        world.choose(turn(-1))
        world.choose(deliver(0))
        self.assertEqual(world.net, [])
        self.assertEqual(world.house_wires[0].outbox, [(0, ("give", 0, 0))])

    def test_a_letter_from_a_desk_that_is_down_arrives(self):
        world = world_with([WISH])
        world.choose(ask(0))
        world.choose(turn(0))
        world.choose(deliver(0))
        self.assertEqual(world.house.round, (0, 0, LACK))


class TickTest(ChoiceCase):
    def test_the_house_ticks_for_each_seller_in_order(self):
        world = world_with()
        for seller, night in ((1, 0), (0, 1), (1, 2)):
            world.choose(move(SETUP, seller, 0, night))
        world.net.clear()
        world.choose(choice(6, 0))
        letters = [
            (0, -1, "data", 0, ("give", 0, 1)),
            (1, -1, "data", 0, ("give", 0, 0)),
            (1, -1, "data", 1, ("give", 0, 2)),
        ]
        self.assertEqual(world.net, letters)
        world.choose(choice(6, 3))
        self.assertEqual(world.net, letters + letters)
        self.assertEqual([wire.sent for wire in world.house_wires], [1, 2])

    def test_a_seller_ticks_for_what_is_not_acknowledged(self):
        world = world_with([WISH] * 3, [WISH])
        for step in (ask(0), ask(1), ask(0)):
            world.choose(step)
        world.choose(deliver(0))
        ack = world.net.pop()
        self.assertEqual(ack, (0, -1, "ack", 0))
        world.net[:] = [ack]
        world.choose(deliver(0))
        self.assertEqual(world.net, [])
        world.choose(choice(6, 1))
        self.assertEqual(world.net, [(-1, 0, "data", 1, ("ask", 1, LACK))])
        world.choose(choice(6, 2 + 3 * 5))
        self.assertEqual(world.net[1:], [(-1, 1, "data", 0, ("ask", 0, LACK))])

    def test_a_desk_that_is_down_does_not_tick(self):
        world = world_with([WISH])
        world.choose(move(SETUP, 0, 0, 0))
        world.choose(ask(0))
        world.net.clear()
        world.choose(turn(-1))
        world.choose(turn(0))
        self.assert_nothing(world, tick(-1), tick(0), tick(1))
        world.choose(turn(0))
        world.choose(tick(0))
        self.assertEqual(len(world.net), 1)
        self.assertEqual(world.net[0][:2], (-1, 0))

    def test_desks_with_nothing_to_send(self):
        self.assert_nothing(world_with(), tick(-1), tick(0), tick(1))


class TurnTest(ChoiceCase):
    def test_a_desk_goes_down_and_comes_up(self):
        world = world_with()
        world.choose(choice(7, 1))
        self.assertEqual(world.down, [False, True, False])
        world.choose(choice(7, 0))
        world.choose(choice(7, 2 + 3 * 7))
        self.assertEqual(world.down, [True, True, True])
        world.choose(choice(7, 4))
        self.assertEqual(world.down, [True, False, True])

    def test_a_desk_that_is_down_keeps_all_that_it_has(self):
        world = world_with([WISH, WISH])
        world.choose(move(SETUP, 0, 0, 0))
        deliver_all(world)
        for step in (ask(0), ask(0), turn(0), turn(-1)):
            world.choose(step)
        before = state_of(world)
        world.choose(turn(0))
        world.choose(turn(-1))
        world.down[:2] = [True, True]
        self.assertEqual(state_of(world), before)
        self.assertEqual(world.sellers[0].vouchers, {0: SMALL})


class ManyLettersTest(ChoiceCase):
    def world_with_letters(self, many):
        """Return a world with so many wants in the net, which have the numbers from 0 on."""
        world = world_with()
        for number in range(many):
            world.choose(move(SETUP, 0, 0, number % 4, 1))
        return world

    def test_300_letters_stay(self):
        world = self.world_with_letters(300)
        self.assertEqual([letter[3] for letter in world.net], list(range(300)))
        self.assert_nothing(world, tick(1), ask(0))

    def test_the_oldest_letters_above_300_are_removed(self):
        world = self.world_with_letters(303)
        self.assertEqual([letter[3] for letter in world.net], list(range(3, 303)))
        self.assertEqual(len(world.house_wires[0].outbox), 303)
        world.choose(choice(5, 7))
        self.assertEqual([letter[3] for letter in world.net], list(range(4, 303)) + [10])
        world.choose(tick(-1))
        self.assertEqual([letter[3] for letter in world.net], list(range(3, 303)))

    def test_letters_are_removed_behind_the_choice(self):
        world = self.world_with_letters(299)
        world.deeds[1].append(WISH)
        world.choose(ask(1))
        letters = list(world.net)
        world.choose(deliver(299))
        new = [(seller, -1, "data", number, ("close", CELLS)) for seller, number in ((0, 299), (1, 0))]
        self.assertEqual(world.net, letters[2:299] + new + [(1, -1, "ack", 0)])
        world.choose(deliver(299))
        self.assertEqual(world.net, letters[2:299] + new)
        self.assertEqual(world.seller_wires[1].outbox, [])


if __name__ == "__main__":
    unittest.main()
