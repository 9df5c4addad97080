"""Points 5, 6, 17 and 24: what holds in every world, with all lists of deeds and all choices."""

import random
import unittest

from manydoors.inn import housing, needs_of
from manydoors.world import World
from tests.samples import LARGEST, SMALLEST, cells_of
from tests.watch import watch_world
from tests.worlds import choice, deliver_all, random_choice, random_deeds, random_world


def stays_of_vouchers(world):
    return [stay for seller in world.sellers for party in seller.vouchers.values() for stay in party]


def rooms_at(source, rooms, stays, night):
    """Return rooms, one after another at random, for the stays that have begun, and None for the others."""
    given = [None] * len(stays)
    for at in sorted(range(len(stays)), key=lambda place: stays[place][1]):
        kind, first, _ = stays[at]
        if first <= night:
            beside = [
                given[other]
                for other, (other_kind, _, end) in enumerate(stays)
                if given[other] is not None and other_kind == kind and end > first
            ]
            given[at] = source.choice([room for room in range(rooms[kind]) if room not in beside])
    return given


class PromisesTest(unittest.TestCase):
    def assert_all_rooms_are_in_hands(self, world):
        for kind, night in cells_of(world.setup):
            hands = world.hands(kind, night)
            self.assertEqual(sum(hands.values()), world.setup[0][kind])
            self.assertTrue(all(number > 0 for number in hands.values()))

    def assert_vouchers_can_be_housed(self, world, source):
        """The vouchers have rooms, in which those whose first night has come keep theirs."""
        rooms, nights = world.setup[:2]
        stays = stays_of_vouchers(world)
        needs = needs_of(stays)
        self.assertTrue(all(needs[cell] <= rooms[cell[0]] for cell in needs))
        night = source.randrange(-1, nights)
        given = rooms_at(source, rooms, stays, night)
        housed = housing(rooms, stays, night, given)
        for at, room in enumerate(given):
            self.assertIn(room, (None, housed[at]))
        taken = [
            (stay[0], room, night) for stay, room in zip(stays, housed) for night in range(stay[1], stay[2])
        ]
        self.assertEqual(len(taken), len(set(taken)))
        self.assertTrue(all(room < rooms[stay[0]] for stay, room in zip(stays, housed)))

    def assert_books_are_alike_or_under_way(self, world):
        """What a house's book lacks are the entries under way, in order."""
        for number, seller in enumerate(world.sellers):
            book = world.house.books[number]
            self.assertEqual(seller.book[: len(book)], book)
            expected = world.house_wires[number].expected
            bodies = [body for at, body in world.seller_wires[number].outbox if at >= expected]
            self.assertEqual(seller.book[len(book) :], [body[1] for body in bodies if body[0] == "entry"])

    def assert_settles(self, world, watch):
        """Settling tells all that was asked, and then nothing is left open."""
        self.assertIs(world.settle(), True)
        watch.read_on(world.history)
        asked = {(seller, number) for seller, many in enumerate(world.asked) for number in range(many)}
        self.assertEqual(set(watch.deeds), asked)
        self.assertEqual(set(watch.told), asked)
        self.assertEqual(len(world.history), 2 * len(asked))
        self.assertEqual(world.net, [])
        self.assertEqual(world.down, [False] * len(world.down))
        self.assertEqual(world.house.books, [seller.book for seller in world.sellers])
        self.assertEqual((world.house.round, world.house.queue), (None, []))
        for seller in world.sellers:
            self.assertEqual((seller.closing, seller.asked, seller.waiting), (None, {}, []))
        for wire, other in zip(world.house_wires + world.seller_wires, world.seller_wires + world.house_wires):
            self.assertEqual((wire.outbox, wire.sent), ([], other.expected))
        watch.check_vouchers(world.sellers)
        self.assert_all_rooms_are_in_hands(world)

    def check_world(self, world, source, steps, choose):
        watch = watch_world(self, world)
        for step in range(steps):
            world.choose(choose(source))
            watch.read_on(world.history)
            watch.check_vouchers(world.sellers)
            self.assertLessEqual(len(world.net), 300)
            if step % 5 == 0:
                self.assert_all_rooms_are_in_hands(world)
                self.assert_vouchers_can_be_housed(world, source)
                self.assert_books_are_alike_or_under_way(world)
        self.assert_settles(world, watch)
        return watch

    def test_random_choices(self):
        granted = 0
        refused = 0
        for seed in range(150):
            source = random.Random(seed)
            with self.subTest(seed=seed):
                watch = self.check_world(random_world(source, 16), source, source.choice((20, 150, 300)), random_choice)
                granted += sum(watch.told.values())
                refused += len(watch.refused)
        # The worlds are worth something only if much is decided in them.
        self.assertGreater(granted, 300)
        self.assertGreater(refused, 100)

    def test_choices_of_all_kinds_alike(self):
        for seed in range(60):
            source = random.Random(1000 + seed)
            with self.subTest(seed=seed):
                self.check_world(random_world(source, 8), source, 200, lambda any_source: any_source.randrange(10**6))

    def test_nets_that_run_over(self):
        for seed in range(12):
            source = random.Random(2000 + seed)
            with self.subTest(seed=seed):
                actions = (0, 5, 5, 6, 6, 8, 9)
                self.check_world(
                    random_world(source, 20),
                    source,
                    300,
                    lambda any_source: choice(any_source.choice(actions), any_source.randrange(10**5)),
                )

    def test_the_smallest_and_the_largest_inn(self):
        for setup in (SMALLEST, LARGEST):
            for seed in range(10):
                source = random.Random(3000 + seed)
                with self.subTest(setup=setup, seed=seed):
                    world = World(setup, random_deeds(source, setup, 12))
                    self.check_world(world, source, 150, random_choice)

    def test_worlds_go_on_behind_settle(self):
        for seed in range(40):
            source = random.Random(4000 + seed)
            with self.subTest(seed=seed):
                world = random_world(source, 20)
                watch = watch_world(self, world)
                for _ in range(4):
                    for _ in range(60):
                        world.choose(random_choice(source))
                    self.assert_settles(world, watch)

    def test_the_same_choices_make_the_same_world(self):
        histories = []
        for _ in range(2):
            source = random.Random(5000)
            world = random_world(source, 20)
            for _ in range(300):
                world.choose(random_choice(source))
            world.settle()
            histories.append((world.history, world.house.books, world.house.stock))
        self.assertEqual(histories[0], histories[1])

    def test_what_the_free_nights_allow_is_told_without_the_house(self):
        for seed in range(40):
            source = random.Random(6000 + seed)
            world = random_world(source, 12)
            rooms, nights, sellers = world.setup[:3]
            for argument in range(sellers * len(rooms) * nights):
                for _ in range(2):
                    world.choose(choice(9, argument))
            deliver_all(world)
            world.down[0] = True
            watch = watch_world(self, world)
            for _ in range(12):
                for seller in range(sellers):
                    before = dict(world.sellers[seller].free)
                    at = world.asked[seller]
                    world.choose(choice(8, seller))
                    watch.read_on(world.history)
                    if at < world.asked[seller]:
                        self.assert_told_by_free_nights(world, watch, (seller, at), before)

    def assert_told_by_free_nights(self, world, watch, name, free):
        """A wish is told at once exactly if the seller has free nights for all its needs."""
        deed = watch.deeds[name]
        if deed[0] == "wish":
            enough = all(free[cell] >= number for cell, number in needs_of(deed[1]).items())
            self.assertEqual(watch.told.get(name), True if enough else None)


if __name__ == "__main__":
    unittest.main()
