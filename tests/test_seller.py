"""Points 9, 10, 11 and 16: what a seller does with deeds and bodies, and what it sends and tells."""

import unittest

from manydoors.errors import BadSetup
from manydoors.seller import Seller
from tests.samples import LARGEST, SETUP, SMALLEST, cells_of
from tests.sellers import LATER, LONG, MIXED, SMALL, SellerCase, seller_with, seller_with_voucher


class NewSellerTest(SellerCase):
    def test_fields_at_first(self):
        for setup in (SMALLEST, SETUP, LARGEST):
            seller = Seller(setup, setup[2] - 1)
            self.assertEqual(seller.free, {cell: 0 for cell in cells_of(setup)})
            self.assertEqual(seller.vouchers, {})
            self.assertEqual(seller.book, [])
            self.assertIsNone(seller.closing)
            self.assertEqual(seller.asked, {})
            self.assertEqual(seller.waiting, [])
            self.assert_sent(seller, [], [])

    def test_what_is_not_a_setup(self):
        for setup in (None, (), ((5,), 1, 1, ((0,),), 0), ((1,), 13, 1, ((0,) * 13,), 0), list(SETUP)):
            with self.assertRaises(BadSetup):
                Seller(setup, 0)


class WishTest(SellerCase):
    def test_a_wish_from_free_nights_is_sold_and_told(self):
        seller = seller_with({(0, 0): 2, (0, 1): 1, (0, 2): 1, (1, 0): 1})
        self.assertEqual(seller.ask(("wish", LONG)), 0)
        self.assert_free(seller, {(0, 0): 1, (1, 0): 1})
        self.assertEqual(seller.vouchers, {0: LONG})
        row = ("sold", 0, LONG, 63, 8)
        self.assertEqual(seller.book, [row])
        self.assert_sent(seller, [("entry", row)], [(0, True)])
        self.assertEqual(seller.asked, {})

    def test_the_stays_of_a_party_need_rooms_together(self):
        seller = seller_with({(0, 0): 1, (0, 1): 2, (0, 2): 1, (1, 3): 1})
        seller.ask(("wish", MIXED))
        self.assert_free(seller, {})
        row = ("sold", 0, MIXED, 182, 25)
        self.assert_sent(seller, [("entry", row)], [(0, True)])

    def test_a_wish_that_lacks_one_night_is_asked_of_the_house_for_all_nights(self):
        free = {(0, 0): 1, (0, 1): 1, (0, 2): 1, (1, 3): 1}
        seller = seller_with(free)
        self.assertEqual(seller.ask(("wish", MIXED)), 0)
        self.assert_free(seller, free)
        self.assertEqual(seller.vouchers, {})
        self.assertEqual(seller.book, [])
        self.assertEqual(seller.asked, {0: ("wish", MIXED)})
        lack = (((0, 0), 1), ((0, 1), 2), ((0, 2), 1), ((1, 3), 1))
        self.assert_sent(seller, [("ask", 0, lack)], [])

    def test_the_lack_is_in_ascending_order_of_the_cells(self):
        seller = Seller(SETUP, 0)
        party = ((0, 2, 4), (1, 0, 2), (1, 0, 2))
        seller.ask(("wish", party))
        self.assertEqual(seller.bodies(), [("ask", 0, (((0, 2), 1), ((0, 3), 1), ((1, 0), 2), ((1, 1), 2)))])
        early_last = ((0, 1, 3), (0, 2, 3), (1, 0, 1))
        seller.ask(("wish", early_last))
        self.assertEqual(seller.bodies(), [("ask", 1, (((0, 1), 1), ((0, 2), 2), ((1, 0), 1)))])

    def test_a_wish_beyond_the_rooms_is_asked_too(self):
        seller = Seller(SMALLEST, 0)
        seller.ask(("wish", ((0, 0, 1),) * 4))
        self.assert_sent(seller, [("ask", 0, (((0, 0), 4),))], [])

    def test_the_numbers_count_all_deeds_in_their_order(self):
        seller = seller_with({(0, 0): 1})
        deeds = [("wish", SMALL), ("cancel", 0), ("change", 0, SMALL), ("wish", LONG), ("cancel", 3), ("wish", SMALL)]
        self.assertEqual([seller.ask(deed) for deed in deeds], [0, 1, 2, 3, 4, 5])
        self.assertEqual(seller.answers(), [(0, True), (1, True), (2, False), (4, False), (5, True)])
        self.assertEqual(seller.vouchers, {5: SMALL})


class CancelTest(SellerCase):
    def test_a_cancel_frees_the_needs_of_the_voucher(self):
        seller = seller_with_voucher(MIXED, [(0, 1), (1, 0)])
        self.assertEqual(seller.ask(("cancel", 0)), 1)
        self.assert_free(seller, {(0, 0): 1, (0, 1): 3, (0, 2): 1, (1, 3): 1, (1, 0): 1})
        self.assertEqual(seller.vouchers, {})
        row = ("cancelled", 0, 182, 25)
        self.assertEqual(seller.book, [("sold", 0, MIXED, 182, 25), row])
        self.assert_sent(seller, [("entry", row)], [(1, True)])

    def test_a_cancel_of_what_is_no_voucher_is_told_false(self):
        seller = seller_with_voucher(SMALL)
        seller.ask(("cancel", 0))
        book = list(seller.book)
        seller.bodies()
        seller.answers()
        for number, named in enumerate((0, 1, 3, 99), 2):
            self.assertEqual(seller.ask(("cancel", named)), number)
            self.assert_sent(seller, [], [(number, False)])
        self.assert_free(seller, {(0, 0): 1})
        self.assertEqual(seller.book, book)

    def test_only_the_voucher_of_the_number_is_cancelled(self):
        seller = seller_with({(0, 0): 2})
        for deed in (("wish", SMALL), ("wish", SMALL), ("cancel", 1)):
            seller.ask(deed)
        self.assertEqual(seller.vouchers, {0: SMALL})
        self.assertEqual(seller.answers(), [(0, True), (1, True), (2, True)])
        self.assertEqual(seller.book[-1], ("cancelled", 1, 10, 1))

    def test_a_cancel_of_a_wish_that_the_house_has_not_answered_is_told_false(self):
        seller = Seller(SETUP, 0)
        seller.ask(("wish", SMALL))
        seller.bodies()
        seller.ask(("cancel", 0))
        self.assert_sent(seller, [], [(1, False)])
        self.assertEqual(seller.asked, {0: ("wish", SMALL)})
        self.assertEqual(seller.waiting, [])


class ChangeTest(SellerCase):
    def test_a_change_takes_only_what_it_needs_more(self):
        seller = seller_with_voucher(LONG, [(0, 3)])
        self.assertEqual(seller.ask(("change", 0, LATER)), 1)
        self.assert_free(seller, {(0, 0): 1})
        self.assertEqual(seller.vouchers, {0: LATER})
        row = ("changed", 0, LATER, 53, 7, 63, 8)
        self.assertEqual(seller.book, [("sold", 0, LONG, 63, 8), row])
        self.assert_sent(seller, [("entry", row)], [(1, True)])

    def test_a_change_that_lacks_a_night_is_asked_for_what_it_lacks(self):
        seller = seller_with_voucher(LONG, [(1, 3)])
        new = ((0, 1, 4), (0, 2, 3), (1, 3, 4))
        self.assertEqual(seller.ask(("change", 0, new)), 1)
        self.assert_free(seller, {(1, 3): 1})
        self.assertEqual(seller.vouchers, {0: LONG})
        self.assertEqual(seller.asked, {1: ("change", 0, new)})
        self.assert_sent(seller, [("ask", 1, (((0, 2), 1), ((0, 3), 1), ((1, 3), 1)))], [])
        self.assertEqual(len(seller.book), 1)

    def test_a_change_to_less_or_to_the_same_lacks_nothing(self):
        seller = seller_with_voucher(LONG)
        seller.ask(("change", 0, LONG))
        self.assert_free(seller, {})
        self.assert_sent(seller, [("entry", ("changed", 0, LONG, 63, 8, 63, 8))], [(1, True)])
        seller.ask(("change", 0, SMALL))
        self.assert_free(seller, {(0, 1): 1, (0, 2): 1})
        self.assert_sent(seller, [("entry", ("changed", 0, SMALL, 10, 1, 63, 8))], [(2, True)])
        self.assertEqual(seller.vouchers, {0: SMALL})

    def test_a_change_of_what_is_no_voucher_is_told_false_and_not_asked(self):
        seller = seller_with_voucher(LONG, [(0, 3)])
        seller.ask(("change", 0, LATER))
        seller.bodies()
        seller.answers()
        for number, named in enumerate((1, 2, 50), 2):
            self.assertEqual(seller.ask(("change", named, SMALL)), number)
            self.assert_sent(seller, [], [(number, False)])
        self.assertEqual(seller.vouchers, {0: LATER})
        self.assertEqual(seller.asked, {})
        self.assert_free(seller, {(0, 0): 1})

    def test_a_changed_voucher_is_cancelled_by_the_number_of_its_wish(self):
        seller = seller_with_voucher(LONG, [(0, 3)])
        seller.ask(("change", 0, LATER))
        seller.ask(("cancel", 0))
        self.assert_free(seller, {(0, night): 1 for night in range(4)})
        self.assertEqual(seller.book[-1], ("cancelled", 0, 53, 7))


class BodyTest(SellerCase):
    def test_give(self):
        seller = Seller(SETUP, 1)
        for _ in range(3):
            seller.handle(("give", 1, 2))
        self.assert_free(seller, {(1, 2): 3})
        self.assert_sent(seller, [], [])

    def test_want_with_a_free_night(self):
        seller = seller_with({(0, 1): 2})
        seller.handle(("want", 0, 1))
        self.assert_free(seller, {(0, 1): 1})
        seller.handle(("want", 0, 1))
        self.assert_free(seller, {})
        self.assert_sent(seller, [("back", 0, 1), ("back", 0, 1)], [])

    def test_want_without_a_free_night_does_nothing(self):
        seller = seller_with({(0, 1): 1, (1, 0): 1})
        seller.handle(("want", 0, 0))
        seller.handle(("want", 1, 1))
        self.assert_free(seller, {(0, 1): 1, (1, 0): 1})
        self.assert_sent(seller, [], [])

    def test_close_counts_the_free_nights_in_the_order_of_the_cells(self):
        seller = seller_with({(0, 0): 2, (0, 2): 1, (1, 1): 3})
        cells = ((0, 0), (0, 1), (1, 1))
        seller.handle(("close", cells))
        self.assert_sent(seller, [("closed", (2, 0, 3))], [])
        self.assertEqual(seller.closing, cells)
        self.assert_free(seller, {(0, 2): 1})

    def test_open_adds_the_counts_and_ends_the_closing(self):
        seller = seller_with({(0, 2): 1, (1, 1): 3})
        seller.handle(("close", ((0, 0), (0, 2), (1, 1))))
        seller.bodies()
        seller.handle(("open", (2, 0, 1), None))
        self.assertIsNone(seller.closing)
        self.assert_free(seller, {(0, 0): 2, (1, 1): 1})
        self.assert_sent(seller, [], [])

    def test_what_is_given_in_a_closing_is_kept_at_its_end(self):
        seller = seller_with({(0, 0): 1})
        seller.handle(("close", ((0, 0),)))
        seller.handle(("give", 0, 0))
        seller.handle(("open", (1,), None))
        self.assert_free(seller, {(0, 0): 2})

    def test_a_wish_that_is_granted(self):
        seller = seller_with({(0, 1): 1})
        seller.ask(("wish", LONG))
        seller.handle(("close", ((0, 0), (0, 1), (0, 2))))
        self.assertEqual(len(seller.bodies()), 2)
        seller.handle(("open", (0, 1, 0), (0, True)))
        self.assertEqual(seller.vouchers, {0: LONG})
        self.assert_free(seller, {(0, 1): 1})
        row = ("sold", 0, LONG, 63, 8)
        self.assertEqual(seller.book, [row])
        self.assert_sent(seller, [("entry", row)], [(0, True)])
        self.assertEqual(seller.asked, {})

    def test_a_wish_that_is_refused(self):
        seller = seller_with({(0, 1): 1})
        seller.ask(("wish", LONG))
        seller.ask(("wish", LATER))
        seller.handle(("close", ((0, 0), (0, 1), (0, 2))))
        seller.bodies()
        seller.handle(("open", (0, 1, 0), (0, False)))
        self.assertEqual(seller.vouchers, {})
        self.assertEqual(seller.book, [])
        self.assert_free(seller, {(0, 1): 1})
        self.assert_sent(seller, [], [(0, False)])
        self.assertEqual(seller.asked, {1: ("wish", LATER)})

    def test_a_change_that_is_granted_frees_what_it_needs_no_longer(self):
        old = ((0, 0, 2), (0, 0, 2), (1, 0, 1))
        new = ((0, 0, 1), (0, 1, 4))
        seller = seller_with_voucher(old)
        seller.ask(("change", 0, new))
        self.assertEqual(seller.bodies(), [("ask", 1, (((0, 2), 1), ((0, 3), 1)))])
        seller.handle(("close", ((0, 2), (0, 3))))
        seller.handle(("open", (0, 0), (1, True)))
        self.assertEqual(seller.vouchers, {0: new})
        self.assert_free(seller, {(0, 0): 1, (0, 1): 1, (1, 0): 1})
        row = ("changed", 0, new, 63, 8, 65, 8)
        self.assertEqual(seller.book[1:], [row])
        self.assert_sent(seller, [("closed", (0, 0)), ("entry", row)], [(1, True)])
        self.assertEqual(seller.asked, {})

    def test_a_change_that_is_refused_leaves_the_voucher(self):
        seller = seller_with_voucher(LONG)
        seller.ask(("change", 0, LATER))
        seller.handle(("close", ((0, 3),)))
        seller.bodies()
        seller.handle(("open", (0,), (1, False)))
        self.assertEqual(seller.vouchers, {0: LONG})
        self.assert_free(seller, {})
        self.assert_sent(seller, [], [(1, False)])


class ListsTest(SellerCase):
    def test_what_was_sent_and_told_is_not_returned_again(self):
        seller = seller_with({(0, 0): 1})
        seller.ask(("wish", SMALL))
        self.assertEqual(len(seller.bodies()), 1)
        self.assertEqual(seller.bodies(), [])
        self.assertEqual(seller.answers(), [(0, True)])
        self.assertEqual(seller.answers(), [])

    def test_bodies_and_answers_are_in_the_order_of_what_happens(self):
        seller = seller_with({(0, 0): 1})
        for deed in (("wish", SMALL), ("wish", SMALL), ("cancel", 0), ("cancel", 0)):
            seller.ask(deed)
        sold = ("entry", ("sold", 0, SMALL, 10, 1))
        cancelled = ("entry", ("cancelled", 0, 10, 1))
        self.assert_sent(seller, [sold, ("ask", 1, (((0, 0), 1),)), cancelled], [(0, True), (2, True), (3, False)])

    def test_changed_lists_change_nothing_of_the_seller(self):
        seller = seller_with({(0, 0): 1})
        empty_bodies = seller.bodies()
        empty_answers = seller.answers()
        empty_bodies.append("x")
        empty_answers.append("x")
        seller.ask(("wish", SMALL))
        bodies = seller.bodies()
        answers = seller.answers()
        bodies.clear()
        answers.append((9, False))
        seller.ask(("cancel", 0))
        self.assert_sent(seller, [("entry", ("cancelled", 0, 10, 1))], [(1, True)])
        self.assertEqual(bodies, [])
        self.assertEqual(answers, [(0, True), (9, False)])
        self.assertEqual(len(seller.book), 2)

    def test_sellers_share_nothing(self):
        first = Seller(SETUP, 0)
        second = Seller(SETUP, 1)
        first.handle(("give", 0, 0))
        first.ask(("wish", SMALL))
        first.ask(("wish", SMALL))
        first.handle(("close", ((0, 0),)))
        first.ask(("wish", SMALL))
        self.assert_free(second, {})
        self.assertEqual((second.vouchers, second.book, second.closing, second.asked), ({}, [], None, {}))
        self.assertEqual(second.waiting, [])
        self.assert_sent(second, [], [])
        self.assertEqual(second.ask(("cancel", 0)), 0)


if __name__ == "__main__":
    unittest.main()
