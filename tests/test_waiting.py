"""Points 9 to 11: which deeds of a seller wait, and what is done with them behind an "open"."""

import unittest

from manydoors.seller import Seller
from tests.samples import SETUP
from tests.sellers import LATER, LONG, SMALL, SellerCase, seller_with, seller_with_voucher


class MustWaitTest(SellerCase):
    def test_deeds_with_a_cell_in_the_closing_wait_in_order(self):
        last = ((0, 3, 4),)
        seller = seller_with_voucher(LONG, [(0, 3), (0, 3)])
        seller.ask(("wish", last))
        seller.handle(("close", ((0, 2), (1, 0))))
        seller.bodies()
        seller.answers()
        # By the party, by the voucher alone, by the old party alone, and by the new party alone.
        deeds = [
            ("wish", ((0, 3, 4), (1, 0, 1))),
            ("cancel", 0),
            ("change", 0, SMALL),
            ("change", 1, ((0, 2, 4),)),
        ]
        self.assertEqual([seller.ask(deed) for deed in deeds], [2, 3, 4, 5])
        self.assertEqual(seller.waiting, [(2, deeds[0]), (3, deeds[1]), (4, deeds[2]), (5, deeds[3])])
        self.assert_sent(seller, [], [])
        self.assertEqual(seller.vouchers, {0: LONG, 1: last})
        self.assertEqual(seller.asked, {})

    def test_deeds_beside_the_closing_do_not_wait(self):
        seller = seller_with_voucher(SMALL, [(0, 1), (0, 3)])
        seller.handle(("close", ((0, 2),)))
        seller.bodies()
        seller.ask(("wish", ((0, 2, 3),)))
        party = ((0, 1, 2), (0, 3, 4))
        seller.ask(("wish", party))
        seller.ask(("wish", ((1, 2, 3),)))
        seller.ask(("change", 2, ((0, 3, 4),)))
        seller.ask(("cancel", 0))
        self.assertEqual(seller.waiting, [(1, ("wish", ((0, 2, 3),)))])
        bodies = [
            ("entry", ("sold", 2, party, 20, 3)),
            ("ask", 3, (((1, 2), 1),)),
            ("entry", ("changed", 2, ((0, 3, 4),), 0, 0, 20, 3)),
            ("entry", ("cancelled", 0, 10, 1)),
        ]
        self.assert_sent(seller, bodies, [(2, True), (4, True), (5, True)])

    def test_a_cancel_without_a_voucher_does_not_wait(self):
        seller = Seller(SETUP, 0)
        seller.handle(("close", ((0, 0),)))
        seller.bodies()
        seller.ask(("wish", SMALL))
        seller.ask(("cancel", 0))
        self.assert_sent(seller, [], [(1, False)])
        self.assertEqual(seller.waiting, [(0, ("wish", SMALL))])

    def test_a_change_without_a_voucher_waits_for_its_party_alone(self):
        seller = Seller(SETUP, 0)
        seller.handle(("close", ((0, 0),)))
        seller.bodies()
        seller.ask(("wish", SMALL))
        seller.ask(("change", 0, ((1, 0, 2),)))
        seller.ask(("change", 0, SMALL))
        self.assert_sent(seller, [], [(1, False)])
        self.assertEqual(seller.waiting, [(0, ("wish", SMALL)), (2, ("change", 0, SMALL))])

    def test_deeds_wait_for_a_change_that_is_asked_of_the_house(self):
        seller = seller_with_voucher(SMALL, [(1, 0)])
        seller.ask(("wish", ((1, 0, 1),)))
        seller.ask(("change", 0, LATER))
        seller.bodies()
        seller.answers()
        seller.ask(("cancel", 0))
        seller.ask(("change", 0, SMALL))
        seller.ask(("cancel", 1))
        seller.ask(("change", 2, SMALL))
        self.assertEqual(seller.asked, {2: ("change", 0, LATER)})
        self.assertEqual(seller.waiting, [(3, ("cancel", 0)), (4, ("change", 0, SMALL))])
        self.assert_sent(seller, [("entry", ("cancelled", 1, 5, 0))], [(5, True), (6, False)])

    def test_nothing_waits_for_a_wish_that_is_asked_of_the_house(self):
        seller = seller_with({(0, 0): 1})
        seller.ask(("wish", LONG))
        seller.bodies()
        seller.ask(("wish", SMALL))
        seller.ask(("cancel", 0))
        seller.ask(("cancel", 1))
        self.assertEqual(seller.waiting, [])
        self.assertEqual(seller.answers(), [(1, True), (2, False), (3, True)])


class LookTest(SellerCase):
    def open_and_look(self, seller, counts, answer=None):
        seller.bodies()
        seller.answers()
        seller.handle(("open", counts, answer))

    def test_deeds_that_wait_are_done_in_order_behind_an_open(self):
        seller = seller_with({(0, 0): 1})
        seller.handle(("close", ((0, 0),)))
        for deed in (("wish", SMALL), ("wish", SMALL), ("change", 0, SMALL), ("change", 1, SMALL)):
            seller.ask(deed)
        self.open_and_look(seller, (1,))
        self.assertEqual(seller.waiting, [])
        self.assertEqual(seller.vouchers, {0: SMALL})
        self.assertEqual(seller.asked, {1: ("wish", SMALL)})
        bodies = [
            ("entry", ("sold", 0, SMALL, 10, 1)),
            ("ask", 1, (((0, 0), 1),)),
            ("entry", ("changed", 0, SMALL, 10, 1, 10, 1)),
        ]
        self.assert_sent(seller, bodies, [(0, True), (2, True), (3, False)])

    def test_the_answer_is_told_before_the_deeds_that_waited(self):
        seller = seller_with_voucher(SMALL)
        seller.ask(("change", 0, ((0, 0, 2),)))
        seller.ask(("cancel", 0))
        seller.ask(("wish", ((0, 1, 2),)))
        seller.handle(("close", ((0, 1),)))
        seller.ask(("wish", ((0, 1, 2),)))
        self.open_and_look(seller, (0,), (1, True))
        self.assertEqual(seller.vouchers, {4: ((0, 1, 2),)})
        self.assertEqual(seller.asked, {3: ("wish", ((0, 1, 2),))})
        bodies = [
            ("entry", ("changed", 0, ((0, 0, 2),), 30, 4, 10, 1)),
            ("entry", ("cancelled", 0, 30, 4)),
            ("entry", ("sold", 4, ((0, 1, 2),), 20, 3)),
        ]
        self.assert_sent(seller, bodies, [(1, True), (2, True), (4, True)])
        self.assert_free(seller, {(0, 0): 1})

    def test_a_refused_change_lets_the_deeds_that_waited_for_it_go_on(self):
        seller = seller_with_voucher(SMALL)
        seller.ask(("change", 0, ((0, 0, 2),)))
        seller.ask(("cancel", 0))
        seller.handle(("close", ((0, 1),)))
        self.open_and_look(seller, (0,), (1, False))
        self.assert_sent(seller, [("entry", ("cancelled", 0, 10, 1))], [(1, False), (2, True)])
        self.assertEqual(seller.waiting, [])

    def test_deeds_wait_on_behind_the_answer_to_another_deed(self):
        seller = seller_with_voucher(SMALL)
        change = ("change", 0, ((0, 0, 2),))
        seller.ask(change)
        seller.ask(("wish", ((1, 0, 1),)))
        seller.ask(("cancel", 0))
        seller.handle(("close", ((1, 0),)))
        seller.ask(("wish", ((1, 0, 2),)))
        seller.ask(("change", 0, SMALL))
        self.open_and_look(seller, (0,), (2, False))
        self.assertEqual(seller.waiting, [(3, ("cancel", 0)), (5, ("change", 0, SMALL))])
        self.assertEqual(seller.asked, {1: change, 4: ("wish", ((1, 0, 2),))})
        self.assert_sent(seller, [("ask", 4, (((1, 0), 1), ((1, 1), 1)))], [(2, False)])

    def test_a_deed_that_waited_may_make_the_next_one_wait(self):
        seller = seller_with_voucher(SMALL, [(1, 0)])
        seller.handle(("close", ((0, 0),)))
        deeds = [("change", 0, ((0, 0, 2),)), ("cancel", 0), ("wish", ((0, 0, 1), (1, 0, 1))), ("change", 0, SMALL)]
        for deed in deeds:
            seller.ask(deed)
        self.assertEqual(len(seller.waiting), 4)
        self.open_and_look(seller, (1,))
        self.assertEqual(seller.asked, {1: deeds[0]})
        self.assertEqual(seller.waiting, [(2, deeds[1]), (4, deeds[3])])
        self.assertEqual(seller.vouchers, {0: SMALL, 3: ((0, 0, 1), (1, 0, 1))})
        self.assertEqual(seller.answers(), [(3, True)])

    def test_a_deed_that_waited_may_let_the_next_one_be_sold(self):
        seller = seller_with_voucher(SMALL)
        seller.handle(("close", ((0, 0),)))
        for deed in (("cancel", 0), ("wish", SMALL), ("cancel", 0)):
            seller.ask(deed)
        self.open_and_look(seller, (0,))
        self.assertEqual(seller.answers(), [(1, True), (2, True), (3, False)])
        self.assertEqual(seller.vouchers, {2: SMALL})


if __name__ == "__main__":
    unittest.main()
