"""Points 5, 9 to 15, 20 and 24 without a world: desks between which bodies go on ways, in their order."""

import random
import unittest

from manydoors.house import House
from manydoors.inn import needs_of
from manydoors.seller import Seller
from tests.samples import SETUP, cells_of
from tests.watch import Watch
from tests.worlds import random_deeds, random_setup


class Desks:
    """A house and its sellers, with a way in each direction between the house and each seller."""

    def __init__(self, test, setup, deeds):
        self.test = test
        self.setup = setup
        self.house = House(setup)
        self.sellers = [Seller(setup, number) for number in range(setup[2])]
        self.going = [[] for _ in self.sellers]
        self.coming = [[] for _ in self.sellers]
        self.deeds = [list(row) for row in deeds]
        self.asked = 0
        self.watch = Watch(test, setup)

    def ask(self, number):
        """Ask a seller its next deed, if there is one."""
        if not self.deeds[number]:
            return
        deed = self.deeds[number].pop(0)
        shown = repr(deed)
        seller = self.sellers[number]
        answers_before = seller.answers()
        self.test.assertEqual(answers_before, [])
        name = (number, len([asker for asker, _ in self.watch.deeds if asker == number]))
        self.watch.note_asked(name, deed)
        self.test.assertEqual(seller.ask(deed), name[1])
        self.test.assertEqual(repr(deed), shown)
        self.pass_on_seller(number)

    def pass_on_seller(self, number):
        for deed, granted in self.sellers[number].answers():
            self.watch.note_told((number, deed), granted)
        self.coming[number].extend(self.sellers[number].bodies())

    def pass_on_house(self):
        bodies = self.house.bodies()
        self.watch.note_sent(bodies)
        for number, body in bodies:
            self.going[number].append(body)

    def go(self, number):
        """Let the first body on the way to a seller arrive, if there is one."""
        if self.going[number]:
            body = self.going[number].pop(0)
            shown = repr(body)
            self.sellers[number].handle(body)
            self.test.assertEqual(repr(body), shown)
            self.pass_on_seller(number)

    def come(self, number):
        """Let the first body on the way from a seller arrive, if there is one."""
        if self.coming[number]:
            body = self.coming[number].pop(0)
            shown = repr(body)
            self.house.handle(number, body)
            self.test.assertEqual(repr(body), shown)
            self.pass_on_house()

    def give_or_want(self, number, kind, night, wants):
        if wants:
            self.house.want(number, kind, night)
        else:
            possible = self.house.round is None and self.house.stock[(kind, night)] > 0
            self.test.assertIs(self.house.give(number, kind, night), possible)
        self.pass_on_house()

    def under_way(self, cell):
        """Return the number of nights of the cell in bodies and in grants that are under way."""
        many = 0
        for number, seller in enumerate(self.sellers):
            for body in self.going[number] + self.coming[number]:
                if body[0] in ("give", "back"):
                    many += body[1:] == cell
                elif body[0] == "closed":
                    many += dict(zip([closed for closed, _ in self.house.round[2]], body[1])).get(cell, 0)
                elif body[0] == "open":
                    many += dict(zip(seller.closing, body[1])).get(cell, 0)
                    many += self.granted(seller, body[2]).get(cell, 0)
        return many

    def granted(self, seller, answer):
        """Return what a grant on its way to the seller brings, by cells."""
        if answer is None or not answer[1]:
            return {}
        deed = seller.asked[answer[0]]
        had = {} if deed[0] == "wish" else needs_of(seller.vouchers[deed[1]])
        return {cell: max(0, many - had.get(cell, 0)) for cell, many in needs_of(deed[-1]).items()}

    def check(self):
        """All rooms are somewhere, and in no cell anything is below 0."""
        for cell in cells_of(self.setup):
            many = self.house.stock[cell] + self.under_way(cell)
            self.test.assertGreaterEqual(self.house.stock[cell], 0)
            for seller in self.sellers:
                self.test.assertGreaterEqual(seller.free[cell], 0)
                many += seller.free[cell]
                many += sum(needs_of(party).get(cell, 0) for party in seller.vouchers.values())
            self.test.assertEqual(many, self.setup[0][cell[0]], cell)
        self.watch.check_vouchers(self.sellers)

    def step(self, source):
        number = source.randrange(len(self.sellers))
        what = source.choice(("ask", "go", "go", "come", "come", "move", "move"))
        if what == "ask":
            self.ask(number)
        elif what == "go":
            self.go(number)
        elif what == "come":
            self.come(number)
        else:
            kind = source.randrange(len(self.setup[0]))
            self.give_or_want(number, kind, source.randrange(self.setup[1]), source.random() < 0.4)

    def empty_ways(self):
        while any(self.going + self.coming):
            for number in range(len(self.sellers)):
                self.go(number)
                self.come(number)
                self.check()


class DesksTest(unittest.TestCase):
    def check_at_the_end(self, desks):
        """When all ways are empty, all is told, the books are alike, and nothing is open."""
        self.assertEqual(sorted(desks.watch.told), sorted(desks.watch.deeds))
        self.assertEqual(desks.house.books, [seller.book for seller in desks.sellers])
        self.assertIsNone(desks.house.round)
        self.assertEqual(desks.house.queue, [])
        for seller in desks.sellers:
            self.assertEqual((seller.closing, seller.asked, seller.waiting), (None, {}, []))

    def test_random_ways(self):
        for seed in range(120):
            source = random.Random(seed)
            setup = random_setup(source)
            desks = Desks(self, setup, random_deeds(source, setup, 14))
            with self.subTest(seed=seed):
                for _ in range(150):
                    desks.step(source)
                    desks.check()
                desks.empty_ways()
                self.check_at_the_end(desks)

    def test_the_last_room_is_found_with_another_seller(self):
        desks = Desks(self, SETUP, [[("wish", ((1, 0, 2),))], [("wish", ((1, 1, 3),)), ("wish", ((1, 2, 4),))]])
        desks.give_or_want(1, 1, 0, False)
        desks.give_or_want(1, 1, 1, False)
        desks.empty_ways()
        desks.ask(0)
        desks.empty_ways()
        desks.ask(1)
        desks.ask(1)
        desks.empty_ways()
        self.assertEqual(desks.watch.told, {(0, 0): True, (1, 0): False, (1, 1): True})
        self.check_at_the_end(desks)

    def test_two_sellers_ask_for_the_same_room_at_the_same_time(self):
        desks = Desks(self, SETUP, [[("wish", ((1, 0, 1),)), ("cancel", 0)], [("wish", ((1, 0, 1),))]])
        desks.ask(0)
        desks.ask(1)
        desks.come(1)
        desks.come(0)
        desks.empty_ways()
        self.assertEqual(desks.watch.told, {(0, 0): False, (1, 0): True})
        desks.ask(0)
        desks.empty_ways()
        self.assertEqual(desks.watch.told[(0, 1)], False)
        self.check_at_the_end(desks)


if __name__ == "__main__":
    unittest.main()
