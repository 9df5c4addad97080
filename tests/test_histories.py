"""Points 4, 5, 15, 17, 22 and 24: the judge of histories."""

import copy
import random
import unittest
from unittest import mock

from manydoors.deeds import do_in_book
from manydoors.errors import BadHistory
from manydoors.judge import judge_history
from manydoors.world import World
from tests.oracle import explains, explanations, is_explained, parties_behind
from tests.worlds import random_choice, random_deeds, random_party, random_setup

NIGHT = ((0, 0, 1),)
NEXT = ((0, 1, 2),)
BOTH = ((0, 0, 2),)


def asked(seller, number, *deed):
    return ("asked", seller, number, deed)


def told(seller, number, granted):
    return ("told", seller, number, granted)


def full(number):
    """Return so many wishes, each one of a seller of its own and all of them asked before one is told."""
    return [asked(seller, 0, "wish", NIGHT) for seller in range(number)]


class HistoryCase(unittest.TestCase):
    def assert_explained(self, history, rooms=(1,), nights=3):
        names = self.judge(history, rooms, nights)
        self.assertIs(type(names), list, history)
        self.assertTrue(explains(rooms, history, names), (history, names))
        return names

    def assert_unexplained(self, history, rooms=(1,), nights=3):
        self.assertIsNone(self.judge(history, rooms, nights), history)

    def judge(self, history, rooms, nights):
        before = copy.deepcopy(history)
        names = judge_history(rooms, nights, history)
        self.assertEqual(history, before)
        return names

    def assert_bad(self, history, rooms=(1,), nights=3):
        with self.subTest(history=history), self.assertRaises(BadHistory) as caught:
            judge_history(rooms, nights, history)
        self.assertIs(type(caught.exception), BadHistory)


class JudgeHistoryTest(HistoryCase):
    def test_the_empty_history(self):
        self.assertEqual(judge_history((1,), 3, []), [])

    def test_one_deed(self):
        self.assertEqual(judge_history((1,), 3, [asked(0, 0, "wish", NIGHT), told(0, 0, True)]), [(0, 0)])
        self.assert_unexplained([asked(0, 0, "wish", NIGHT), told(0, 0, False)])
        self.assert_explained([asked(0, 0, "wish", NIGHT * 2), told(0, 0, False)])
        self.assert_unexplained([asked(0, 0, "wish", NIGHT * 2), told(0, 0, True)])

    def test_deeds_that_were_not_told_need_not_stand_in_the_list(self):
        names = self.assert_explained([asked(0, 0, "wish", NIGHT * 4)])
        self.assertIn(names, ([], [(0, 0)]))

    def test_deeds_at_one_time_may_stand_in_any_order(self):
        for granted in range(3):
            history = full(3) + [told(seller, 0, seller == granted) for seller in range(3)]
            self.assertEqual(self.assert_explained(history)[0], (granted, 0))

    def test_what_was_told_before_the_asking_comes_before(self):
        first = [asked(0, 0, "wish", NIGHT), told(0, 0, False)]
        second = [asked(1, 0, "wish", NIGHT), told(1, 0, True)]
        self.assert_explained(second + first)
        self.assert_unexplained(first + second)
        # Told and asked in one moment is the same as at one time only if the asking stands first.
        self.assert_explained([first[0], second[0], first[1], second[1]])
        self.assert_explained([second[0], first[0], first[1], second[1]])

    def test_deeds_of_one_seller_at_one_time_may_change_places(self):
        history = [asked(0, 0, "wish", NIGHT), asked(0, 1, "wish", BOTH), told(0, 0, False), told(0, 1, True)]
        self.assertEqual(self.assert_explained(history), [(0, 1), (0, 0)])

    def test_a_refused_wish_needs_a_night_that_is_full(self):
        wishes = [asked(0, 0, "wish", NIGHT), told(0, 0, True), asked(1, 0, "wish", NEXT), told(1, 0, True)]
        self.assert_explained(wishes + [asked(2, 0, "wish", ((0, 1, 3),)), told(2, 0, False)])
        self.assert_unexplained(wishes + [asked(2, 0, "wish", ((0, 2, 3),)), told(2, 0, False)])
        self.assert_explained(wishes + [asked(2, 0, "wish", ((0, 2, 3),)), told(2, 0, True)])
        self.assert_unexplained(wishes + [asked(2, 0, "wish", ((0, 0, 1), (0, 2, 3))), told(2, 0, True)])

    def test_kinds_are_told_apart(self):
        history = [asked(0, 0, "wish", ((0, 0, 1),)), told(0, 0, True), asked(1, 0, "wish", ((1, 0, 1),))]
        self.assert_explained(history + [told(1, 0, True)], (1, 1))
        self.assert_unexplained(history + [told(1, 0, False)], (1, 1))
        self.assert_unexplained(history + [told(1, 0, True)], (1, 0))
        self.assert_explained(history + [told(1, 0, False)], (1, 0))

    def test_sellers_are_any_numbers(self):
        history = [asked(10**9, 0, "wish", NIGHT), asked(4, 0, "wish", NEXT), told(10**9, 0, True), told(4, 0, True)]
        self.assertEqual(sorted(self.assert_explained(history)), [(4, 0), (10**9, 0)])

    def test_cancels(self):
        wish = [asked(0, 0, "wish", NIGHT), told(0, 0, True)]
        cancel = [asked(0, 1, "cancel", 0), told(0, 1, True)]
        again = [asked(1, 0, "wish", NIGHT), told(1, 0, True)]
        self.assert_explained(wish + cancel + again)
        self.assert_unexplained(wish + again + cancel)
        self.assert_unexplained(wish + [cancel[0], told(0, 1, False)])
        self.assert_unexplained(wish + cancel + [asked(0, 2, "cancel", 0), told(0, 2, True)])
        self.assert_explained(wish + cancel + [asked(0, 2, "cancel", 0), told(0, 2, False)])

    def test_a_cancel_at_one_time_with_its_wish_may_come_first(self):
        history = [asked(0, 0, "wish", NIGHT), asked(0, 1, "cancel", 0), told(0, 1, False), told(0, 0, True)]
        self.assertEqual(self.assert_explained(history), [(0, 1), (0, 0)])
        history[2] = told(0, 1, True)
        self.assertEqual(self.assert_explained(history), [(0, 0), (0, 1)])

    def test_a_cancel_or_change_is_of_a_wish_of_the_same_seller(self):
        history = [asked(0, 0, "wish", NIGHT), told(0, 0, True), asked(1, 0, "wish", NIGHT), told(1, 0, False)]
        self.assert_explained(history + [asked(1, 1, "cancel", 0), told(1, 1, False)])
        self.assert_unexplained(history + [asked(1, 1, "cancel", 0), told(1, 1, True)])
        self.assert_unexplained(history + [asked(1, 1, "change", 0, NEXT), told(1, 1, True)])

    def test_names_of_other_deeds_keep_nothing(self):
        history = [asked(0, 0, "wish", NIGHT), told(0, 0, True), asked(0, 1, "change", 0, NEXT), told(0, 1, True)]
        for deed in (("cancel", 1), ("change", 1, NIGHT)):
            self.assert_explained(history + [asked(0, 2, *deed), told(0, 2, False)])
            self.assert_unexplained(history + [asked(0, 2, *deed), told(0, 2, True)])

    def test_changes(self):
        wish = [asked(0, 0, "wish", NIGHT), told(0, 0, True)]
        change = [asked(0, 1, "change", 0, BOTH), told(0, 1, True)]
        # The old party is taken out first, so it does not stand in its own way.
        self.assert_explained(wish + change)
        self.assert_unexplained(wish + [change[0], told(0, 1, False)])
        self.assert_unexplained(wish + change + [asked(1, 0, "wish", NEXT), told(1, 0, True)])
        self.assert_explained(wish + change + [asked(1, 0, "wish", ((0, 2, 3),)), told(1, 0, True)])
        other = [asked(1, 0, "wish", NEXT), told(1, 0, True)]
        self.assert_unexplained(wish + other + change)
        refused = [change[0], told(0, 1, False)]
        self.assert_explained(wish + other + refused)
        # What is refused changes nothing: the night is still let.
        self.assert_unexplained(wish + other + refused + [asked(2, 0, "wish", NIGHT), told(2, 0, True)])
        self.assert_explained(wish + other + refused + [asked(2, 0, "wish", NIGHT), told(2, 0, False)])

    def test_a_change_frees_what_it_needs_no_longer(self):
        history = [asked(0, 0, "wish", NIGHT), told(0, 0, True), asked(0, 1, "change", 0, NEXT), told(0, 1, True)]
        self.assert_explained(history + [asked(1, 0, "wish", NIGHT), told(1, 0, True)])
        self.assert_unexplained(history + [asked(1, 0, "wish", NIGHT), told(1, 0, False)])

    def test_untold_deeds_whose_effect_is_needed(self):
        wish = asked(0, 0, "wish", NIGHT)
        other = [asked(1, 0, "wish", NIGHT), told(1, 0, False)]
        self.assertEqual(self.assert_explained([wish] + other), [(0, 0), (1, 0)])
        self.assert_unexplained(other + [wish])
        kept = [wish, told(0, 0, True)]
        granted = [asked(1, 0, "wish", NIGHT), told(1, 0, True)]
        self.assertEqual(self.assert_explained(kept + [asked(0, 1, "cancel", 0)] + granted), [(0, 0), (0, 1), (1, 0)])
        change = asked(0, 1, "change", 0, NEXT)
        self.assertEqual(self.assert_explained(kept + [change] + granted), [(0, 0), (0, 1), (1, 0)])
        self.assert_unexplained(kept + granted + [change])
        self.assert_unexplained(kept + [asked(0, 1, "change", 0, BOTH)] + granted)

    def test_several_untold_deeds_whose_effect_is_needed(self):
        history = [
            asked(0, 0, "wish", BOTH),
            asked(1, 0, "wish", NIGHT),
            told(1, 0, False),
            asked(0, 1, "cancel", 0),
            asked(2, 0, "wish", NIGHT),
            told(2, 0, True),
        ]
        self.assertEqual(self.assert_explained(history), [(0, 0), (1, 0), (0, 1), (2, 0)])
        self.assert_unexplained(history[:3] + history[4:])

    def test_untold_deeds_come_behind_what_was_told_before_their_asking(self):
        refused = [asked(1, 0, "wish", NIGHT), told(1, 0, False)]
        self.assert_unexplained(refused + [asked(0, 0, "wish", NIGHT)])
        self.assert_explained(refused[:1] + [asked(0, 0, "wish", NIGHT)] + refused[1:])
        wishes = [asked(0, 0, "wish", NIGHT), told(0, 0, True), asked(1, 0, "wish", NIGHT), told(1, 0, True)]
        self.assert_unexplained(wishes + [asked(0, 1, "cancel", 0)])
        self.assert_explained(wishes[:3] + [asked(0, 1, "cancel", 0)] + wishes[3:])

    def test_seven_asked_rows_and_eight(self):
        history = full(7) + [told(seller, 0, seller in (2, 5)) for seller in range(7)]
        self.assert_explained(history, (2,))
        self.assert_unexplained(history, (3,))
        self.assert_unexplained(history, (1,))
        self.assert_explained(full(7))
        self.assert_bad(full(8))
        self.assert_bad(full(7) + [told(0, 0, True), asked(0, 1, "cancel", 0)])
        one_seller = [asked(0, number, "wish", NIGHT) for number in range(8)]
        self.assert_explained(one_seller[:7])
        self.assert_bad(one_seller)

    def test_the_search_is_short(self):
        changes = [asked(0, number, "change", 0, ((0, 0, number),)) for number in range(1, 6)]
        untold = [asked(0, 0, "wish", NIGHT)] + changes + [asked(1, 0, "wish", ((1, 0, 1),)), told(1, 0, False)]
        wishes = full(7) + [told(seller, 0, seller < 6) for seller in range(7)]
        for history, rooms in ((untold, (4, 4, 4)), (wishes, (7,))):
            with mock.patch("manydoors.judge.do_in_book", side_effect=do_in_book) as done:
                self.assert_unexplained(history, rooms, 12)
            # All orders by themselves would be many more.
            self.assertLess(done.call_count, 2500)


class RandomHistoryTest(HistoryCase):
    def random_history(self, source, most):
        """Return rooms and a history of deeds that overlap; the answers are those of some order, or spoilt."""
        rooms = tuple(source.choice((0, 1, 1, 2)) for _ in range(source.choice((1, 1, 2))))
        nights = source.choice((1, 2, 3))
        history, numbers, waiting = [], {}, []
        for _ in range(source.randint(1, most)):
            seller = source.randrange(2)
            number = numbers.get(seller, 0)
            numbers[seller] = number + 1
            form = source.choice(("wish", "wish", "cancel", "change")) if number else "wish"
            named = () if form == "wish" else (source.randrange(number),)
            party = () if form == "cancel" else (random_party(source, len(rooms), nights)[:2],)
            history.append(asked(seller, number, *((form,) + named + party)))
            waiting.append((seller, number))
            while waiting and source.random() < 0.5:
                name = waiting.pop(source.randrange(len(waiting)))
                if source.random() < 0.8:
                    history.append(told(name[0], name[1], source.random() < 0.5))
        return rooms, nights, history

    def test_random_histories_are_explained_exactly_if_some_list_does(self):
        source = random.Random(22)
        explained = 0
        needed = 0
        for _ in range(1500):
            rooms, nights, history = self.random_history(source, 5)
            if is_explained(rooms, history):
                names = self.assert_explained(history, rooms, nights)
                explained += 1
                told_rows = {row[1:3] for row in history if row[0] == "told"}
                untold = {row[1:3] for row in history if row[0] == "asked"} - told_rows
                plain = [row for row in history if row[1:3] not in untold]
                needed += bool(untold & set(names)) and not is_explained(rooms, plain)
            else:
                self.assert_unexplained(history, rooms, nights)
        self.assertGreater(explained, 300)
        self.assertLess(explained, 1200)
        self.assertGreater(needed, 10)


class BadHistoryTest(HistoryCase):
    def test_what_is_no_list(self):
        for history in (None, 0, "", "asked", (), ((asked(0, 0, "wish", NIGHT)),), {}, {0: told(0, 0, True)}):
            self.assert_bad(history)

    def test_rows_of_another_form(self):
        wish = ("wish", NIGHT)
        for row in (
            None,
            0,
            "asked",
            "told",
            "four",
            (),
            [],
            ["asked", 0, 0, wish],
            ("asked",),
            ("asked", 0),
            ("asked", 0, 0),
            ("asked", 0, wish),
            ("asked", 0, 0, wish, 0),
            ("asked", 0, 0, "wish", NIGHT),
            ("Asked", 0, 0, wish),
            ("sold", 0, 0, wish),
            (None, 0, 0, wish),
            (0, 0, 0, wish),
            (["asked"], 0, 0, wish),
            ("asked", -1, 0, wish),
            ("asked", True, 0, wish),
            ("asked", False, 0, wish),
            ("asked", "0", 0, wish),
            ("asked", None, 0, wish),
            ("asked", (0,), 0, wish),
            ("asked", [], 0, wish),
            ("asked", 0.0, 0, wish),
            ("asked", 0, False, wish),
            ("asked", 0, "0", wish),
            ("asked", 0, None, wish),
            ("asked", 0, 0.0, wish),
            ("asked", 0, [0], wish),
            ("asked", 0, 0, True),
        ):
            self.assert_bad([row])
            self.assert_bad([asked(7, 0, *wish), told(7, 0, True), row])

    def test_told_rows_of_another_form(self):
        wishes = [asked(0, 0, "wish", NIGHT), asked(1, 0, "wish", NIGHT)]
        self.assert_explained(wishes + [told(1, 0, True)])
        for row in (
            ("told",),
            ("told", 1, 0),
            ("told", 1, 0, True, True),
            ("told", 1, 0, 1),
            ("told", 1, 0, 0),
            ("told", 1, 0, None),
            ("told", 1, 0, "yes"),
            ("told", 1, 0, ("wish", NIGHT)),
            ("told", 1, 0, []),
            ("told", True, 0, True),
            ("told", 1, False, True),
            ("told", -1, 0, True),
            ("told", 1, -1, True),
            ("told", "1", 0, True),
            ("told", [1], 0, True),
            ("told", 1, {}, True),
            ("tell", 1, 0, True),
            ["told", 1, 0, True],
        ):
            self.assert_bad(wishes + [row])

    def test_deeds_that_are_none_of_the_inn(self):
        for deed in (
            None,
            (),
            "wish",
            ["wish", NIGHT],
            ("wish",),
            ("wish", ()),
            ("wish", NIGHT, 0),
            ("wish", list(NIGHT)),
            ("wish", (0, 0, 1)),
            ("wish", ([0, 0, 1],)),
            ("wish", NIGHT * 5),
            ("wish", NEXT + NIGHT),
            ("wish", ((1, 0, 1),)),
            ("wish", ((-1, 0, 1),)),
            ("wish", ((0, 0, 4),)),
            ("wish", ((0, 1, 1),)),
            ("wish", ((0, -1, 1),)),
            ("wish", ((0, 2, 1),)),
            ("wish", ((0, False, 1),)),
            ("wish", ((0, 0, True),)),
            ("hope", NIGHT),
            (("wish",), NIGHT),
        ):
            self.assert_bad([("asked", 0, 0, deed)])

    def test_kinds_and_nights_are_those_that_are_passed(self):
        history = [asked(0, 0, "wish", ((2, 4, 5),))]
        self.assert_explained(history, (0, 0, 1), 5)
        self.assert_bad(history, (0, 0, 1), 4)
        self.assert_bad(history, (4, 4), 5)
        self.assert_bad(history, (4,), 12)

    def test_cancels_and_changes_name_a_lesser_number(self):
        wish = asked(0, 0, "wish", NIGHT)
        self.assert_explained([wish, asked(0, 1, "cancel", 0)])
        self.assert_explained([wish, asked(0, 1, "change", 0, NEXT)])
        for deed in (
            ("cancel",),
            ("cancel", 1),
            ("cancel", 2),
            ("cancel", -1),
            ("cancel", False),
            ("cancel", None),
            ("cancel", "0"),
            ("cancel", (0,)),
            ("cancel", 0, 0),
            ("cancel", NIGHT),
            ("cancel", 0, NIGHT),
            ("change", 1, NIGHT),
            ("change", 2, NIGHT),
            ("change", -1, NIGHT),
            ("change", False, NIGHT),
            ("change", 0),
            ("change", NIGHT),
            ("change", NIGHT, 0),
            ("change", 0, ()),
            ("change", 0, ((1, 0, 1),)),
            ("change", 0, ((0, 0, 4),)),
            ("change", 0, NEXT + NIGHT),
            ("change", 0, NIGHT, NIGHT),
        ):
            self.assert_bad([wish, asked(0, 1, *deed)])
        for deed in (("cancel", 0), ("change", 0, NIGHT)):
            self.assert_bad([asked(0, 0, *deed)])
            self.assert_bad([wish, told(0, 0, True), asked(1, 0, *deed)])

    def test_a_told_row_has_an_asked_row_before_it(self):
        wish = asked(0, 0, "wish", NIGHT)
        for granted in (True, False):
            self.assert_bad([told(0, 0, granted)])
            self.assert_bad([told(0, 0, granted), wish])
            self.assert_bad([wish, told(1, 0, granted)])
            self.assert_bad([wish, told(0, 1, granted)])
            self.assert_bad([wish, asked(1, 0, "wish", NIGHT), told(0, 1, granted), asked(0, 1, "cancel", 0)])

    def test_a_deed_is_told_once(self):
        wish = asked(0, 0, "wish", NIGHT)
        for first in (True, False):
            for second in (True, False):
                self.assert_bad([wish, told(0, 0, first), told(0, 0, second)])
                self.assert_bad([wish, told(0, 0, first), asked(0, 1, "wish", NEXT), told(0, 0, second)])

    def test_numbers_of_a_seller_are_in_the_order_of_asking(self):
        wishes = [asked(0, number, "wish", NIGHT) for number in range(3)]
        self.assert_explained(wishes)
        self.assert_bad(wishes[1:])
        self.assert_bad([wishes[0], wishes[2]])
        self.assert_bad([wishes[0], wishes[0]])
        self.assert_bad([wishes[0], wishes[2], wishes[1]])
        self.assert_bad([wishes[1], wishes[0]])
        self.assert_bad([wishes[0], wishes[1], wishes[1]])
        self.assert_bad([wishes[0], asked(1, 1, "wish", NIGHT)])
        self.assert_explained([wishes[0], asked(1, 0, "wish", NIGHT), wishes[1], asked(1, 1, "wish", NIGHT)])
        # A row that fits none is bad however late it stands, and though no order explains what stands before it.
        self.assert_bad([wishes[0], told(0, 0, False), wishes[2]])


class WorldHistoryTest(HistoryCase):
    def few_deeds(self, source, setup):
        """Return lists of deeds of which there are 7 together."""
        lists = random_deeds(source, setup, 7)
        while sum(len(deeds) for deeds in lists) > 7:
            source.choice([deeds for deeds in lists if deeds]).pop()
        return lists

    def test_the_histories_of_worlds_are_explained(self):
        untold = 0
        refused = 0
        for seed in range(250):
            source = random.Random(seed)
            setup = random_setup(source)
            world = World(setup, self.few_deeds(source, setup))
            for step in range(150):
                world.choose(random_choice(source))
                if step % 30 == 0:
                    self.assert_explained(world.history, *setup[:2])
            untold += sum(row[0] == "asked" for row in world.history) - sum(row[0] == "told" for row in world.history)
            self.assertIs(world.settle(), True)
            self.assert_explained(world.history, *setup[:2])
            refused += sum(row[0] == "told" and not row[3] for row in world.history)
        self.assertGreater(untold, 20)
        self.assertGreater(refused, 100)

    def test_behind_settle_the_vouchers_are_those_of_a_list_that_explains(self):
        source = random.Random(0)
        for _ in range(150):
            setup = random_setup(source)
            world = World(setup, self.few_deeds(source, setup))
            for _ in range(100):
                world.choose(random_choice(source))
            world.settle()
            vouchers = {
                (seller, number): party
                for seller in range(setup[2])
                for number, party in world.sellers[seller].vouchers.items()
            }
            names = self.assert_explained(world.history, *setup[:2])
            # More than one list may explain a history, and they need not keep the same parties.
            if parties_behind(setup[0], world.history, names) != vouchers:
                lists = explanations(setup[0], world.history)
                self.assertTrue(any(parties_behind(setup[0], world.history, other) == vouchers for other in lists))

    def test_a_spoilt_history_of_a_world_is_found(self):
        found = 0
        for seed in range(60):
            source = random.Random(seed)
            setup = random_setup(source)
            world = World(setup, self.few_deeds(source, setup))
            for _ in range(100):
                world.choose(random_choice(source))
            world.settle()
            if len(world.history) > 10:
                continue
            for at, row in enumerate(world.history):
                if row[0] != "told":
                    continue
                history = world.history[:at] + [told(row[1], row[2], not row[3])] + world.history[at + 1 :]
                if is_explained(setup[0], history):
                    self.assert_explained(history, *setup[:2])
                else:
                    self.assert_unexplained(history, *setup[:2])
                    found += 1
        self.assertGreater(found, 20)


if __name__ == "__main__":
    unittest.main()
