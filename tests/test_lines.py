"""Points 17, 18, 19, 21 and 23: the desk and its lines."""

import copy
import random
import unittest
from unittest import mock

from manydoors.desk import Desk
from manydoors.errors import BadLine
from manydoors.judge import judge_history
from manydoors.texts import format_history, format_party, parse_history
from manydoors.world import World
from tests.samples import nights_of
from tests.spoilt import BAD_NUMBERS, BAD_PARTIES
from tests.worlds import ask, choice, deliver, move, random_choice, random_party, turn

# Lines that each are done in an inn of one seller, a kind and two nights, where a wish stands in the list already.
GOOD_LINES = [
    "inn 1 2 1",
    "wish 0 0:0-1",
    "cancel 0 0",
    "change 0 0 0:0-1",
    "choice 0",
    "settle",
    "told 0 0",
    "free 0",
    "books 0",
    "row 0",
]


def desk_with(*lines):
    desk = Desk()
    for line in lines:
        desk.do(line)
    return desk


def plain_setup(rooms, nights, sellers):
    """Return the setup of point 23: all prices are 1 and the share is 0."""
    return (rooms, nights, sellers, tuple((1,) * nights for _ in rooms), 0)


def settle(world):
    """Settle the world as a desk does; the net may run over while the deeds that are left are asked."""
    world.down[:] = [False] * len(world.down)
    with mock.patch("manydoors.world.MOST_LETTERS", 10**9):
        for _ in range(max(len(deeds) for deeds in world.deeds)):
            for seller in range(len(world.sellers)):
                world.choose(ask(seller))
    world.settle()


class DeskCase(unittest.TestCase):
    def assert_answers(self, desk, answers):
        """Do these lines in order: a list of pairs (line, answer)."""
        for line, answer in answers:
            with self.subTest(line=line):
                self.assertEqual(desk.do(line), answer)

    def assert_bad(self, desk, line):
        with self.subTest(line=line), self.assertRaises(BadLine) as caught:
            desk.do(line)
        self.assertIs(type(caught.exception), BadLine)


class LinesTest(DeskCase):
    def test_an_inn_is_ready(self):
        for line in ("inn 1 1 1", "inn 0 1 1", "inn 4,4,4 12 4", "inn 0,0 3 2", "inn 2,1 4 3"):
            self.assertEqual(Desk().do(line), "ready")

    def test_deeds_are_numbered_for_each_seller(self):
        self.assert_answers(
            desk_with("inn 2,1 4 2"),
            [
                ("wish 0 0:1-3+1:2-4", "deed 0"),
                ("wish 1 0:0-1", "deed 0"),
                ("cancel 0 0", "deed 1"),
                ("change 0 0 1:0-1", "deed 2"),
                ("change 0 1 1:0-1+1:0-1+1:0-1+1:0-1", "deed 3"),
                ("cancel 1 0", "deed 1"),
                ("cancel 0 3", "deed 4"),
            ],
        )

    def test_choices_tell_the_number_of_letters(self):
        self.assert_answers(
            desk_with("inn 1 2 2", "wish 1 0:0-1"),
            [
                ("choice 0", "letters 0"),
                ("choice 9", "letters 1"),
                ("choice 8", "letters 1"),
                ("choice 18", "letters 2"),
                ("choice 5", "letters 3"),
                ("choice 4", "letters 2"),
                # The house wants a night of the seller 1, so it has sent two bodies.
                ("choice 999999999999", "letters 3"),
                ("choice 6", "letters 5"),
                ("choice 7", "letters 5"),
                ("choice 6", "letters 5"),
            ],
        )

    def test_the_answers_of_deeds(self):
        self.assert_answers(
            desk_with("inn 1 2 2", "wish 0 0:0-2", "wish 1 0:1-2", "cancel 0 0"),
            [
                ("told 0 0", "nothing"),
                ("told 0 1", "nothing"),
                ("told 0 2", "nothing"),
                ("told 1 999999999999", "nothing"),
                ("choice 8", "letters 1"),
                ("told 0 0", "nothing"),
                ("settle", "settled"),
                ("told 0 0", "yes"),
                ("told 1 0", "no"),
                ("told 0 1", "no"),
                ("told 0 2", "nothing"),
                ("told 1 1", "nothing"),
            ],
        )

    def test_told_is_of_the_seller_and_of_the_number(self):
        desk = desk_with("inn 1 2 2", "wish 0 0:0-1", "wish 0 0:0-1", "wish 1 0:1-2", "wish 1 0:0-1", "settle")
        answers = {name: desk.do(f"told {name[0]} {name[1]}") for name in ((0, 0), (0, 1), (1, 0), (1, 1))}
        self.assertEqual(answers, {(0, 0): "yes", (0, 1): "no", (1, 0): "yes", (1, 1): "no"})

    def test_free_rooms_are_those_that_no_voucher_needs(self):
        self.assert_answers(
            desk_with("inn 2,0,1 4 2"),
            [
                ("free 0", "2 2 2 2"),
                ("free 1", "0 0 0 0"),
                ("free 2", "1 1 1 1"),
                ("wish 0 0:0-2+2:3-4", "deed 0"),
                ("wish 1 0:1-4", "deed 0"),
                ("free 0", "2 2 2 2"),
                ("settle", "settled"),
                ("free 0", "1 0 1 1"),
                ("free 1", "0 0 0 0"),
                ("free 2", "1 1 1 0"),
                ("change 1 0 0:2-3+0:2-3", "deed 1"),
                ("settle", "settled"),
                ("free 0", "1 1 0 2"),
                ("cancel 0 0", "deed 1"),
                ("settle", "settled"),
                ("free 0", "2 2 0 2"),
                ("free 2", "1 1 1 1"),
            ],
        )

    def test_nights_that_are_no_vouchers_are_free(self):
        # A night that a seller holds is not let, nor is one that travels.
        self.assert_answers(
            desk_with("inn 2 1 1", "choice 9", "choice 9", "choice 0"), [("free 0", "2"), ("books 0", "alike")]
        )

    def test_free_of_one_night(self):
        self.assert_answers(desk_with("inn 4 1 1"), [("free 0", "4")])

    def test_books_under_way(self):
        desk = desk_with("inn 1 1 2", "wish 0 0:0-1", "cancel 0 0", "wish 0 0:0-1")
        self.assert_answers(
            desk,
            [
                ("books 0", "alike"),
                ("choice 9", "letters 1"),
                ("choice 0", "letters 1"),
                ("choice 0", "letters 0"),
                ("choice 8", "letters 1"),
                ("books 0", "under way 1"),
                ("choice 8", "letters 2"),
                ("choice 8", "letters 3"),
                ("books 0", "under way 3"),
                ("books 1", "alike"),
                ("choice 0", "letters 3"),
                ("books 0", "under way 2"),
                ("choice 4", "letters 2"),
                ("books 0", "under way 2"),
                ("settle", "settled"),
                ("books 0", "alike"),
            ],
        )

    def test_rows_of_the_history(self):
        self.assert_answers(
            desk_with("inn 1 4 2", "wish 1 0:0-1+0:2-4", "wish 0 0:1-3"),
            [
                ("row 0", "nothing"),
                ("choice 18", "letters 1"),
                ("row 0", "asked 1 0 wish 0:0-1+0:2-4"),
                ("row 1", "nothing"),
                ("cancel 1 0", "deed 1"),
                ("change 1 0 0:0-4", "deed 2"),
                ("settle", "settled"),
                ("row 0", "asked 1 0 wish 0:0-1+0:2-4"),
                ("row 1", "asked 0 0 wish 0:1-3"),
                ("row 2", "asked 1 1 cancel 0"),
                ("row 3", "told 1 1 no"),
                ("row 4", "asked 1 2 change 0 0:0-4"),
                ("row 5", "told 1 2 no"),
                ("row 6", "told 1 0 yes"),
                ("row 7", "told 0 0 no"),
                ("row 8", "nothing"),
                ("row 999999999999", "nothing"),
            ],
        )

    def test_a_second_inn_begins_a_new_world(self):
        desk = desk_with("inn 1 1 1", "wish 0 0:0-1", "settle", "wish 0 0:0-1", "choice 7", "choice 9")
        self.assert_answers(
            desk,
            [
                ("free 0", "0"),
                ("inn 2 3 2", "ready"),
                ("free 0", "2 2 2"),
                ("told 0 0", "nothing"),
                ("row 0", "nothing"),
                ("books 1", "alike"),
                ("choice 0", "letters 0"),
                ("wish 0 0:2-3", "deed 0"),
                ("settle", "settled"),
                ("row 0", "asked 0 0 wish 0:2-3"),
                ("row 1", "told 0 0 yes"),
                ("row 2", "nothing"),
                ("inn 2 3 2", "ready"),
                ("row 0", "nothing"),
            ],
        )
        self.assert_bad(desk_with("inn 1 1 2", "inn 1 1 1"), "books 1")

    def test_desks_have_worlds_of_their_own(self):
        desk = desk_with("inn 1 1 1", "wish 0 0:0-1", "settle")
        self.assert_answers(desk_with("inn 1 1 1"), [("free 0", "1"), ("row 0", "nothing")])
        self.assert_answers(desk, [("free 0", "0")])

    def test_prices_are_one_and_the_share_is_none(self):
        desk = Desk()
        with mock.patch("manydoors.desk.World", side_effect=World) as made:
            desk.do("inn 2,1 3 2")
        self.assertEqual(made.call_args.args, (((2, 1), 3, 2, ((1, 1, 1), (1, 1, 1)), 0), [[], []]))


class SettleTest(DeskCase):
    def test_a_settle_with_nothing_to_do(self):
        self.assert_answers(desk_with("inn 1 1 1"), [("settle", "settled"), ("row 0", "nothing")])

    def test_the_deeds_that_are_left_are_asked_one_of_each_seller_again_and_again(self):
        desk = desk_with(
            "inn 4 2 3",
            *["wish 2 0:0-1"] * 2,
            *["wish 0 0:1-2"] * 3,
            "wish 1 0:0-2",
            "choice 8",
            "choice 28",
        )
        desk.do("settle")
        asked = [desk.do(f"row {index}") for index in range(6)]
        self.assertEqual(
            asked,
            [
                "asked 0 0 wish 0:1-2",
                "asked 2 0 wish 0:0-1",
                "asked 0 1 wish 0:1-2",
                "asked 1 0 wish 0:0-2",
                "asked 2 1 wish 0:0-1",
                "asked 0 2 wish 0:1-2",
            ],
        )
        self.assertEqual([desk.do(f"row {index}")[:4] for index in range(6, 12)], ["told"] * 6)
        self.assertEqual(desk.do("row 12"), "nothing")

    def test_sellers_that_are_down_come_up_to_be_asked(self):
        desk = desk_with("inn 1 1 2", "choice 7", "choice 17", "choice 27", "wish 0 0:0-1", "wish 1 0:0-1")
        self.assert_answers(
            desk,
            [
                ("choice 8", "letters 0"),
                ("row 0", "nothing"),
                ("settle", "settled"),
                ("told 0 0", "yes"),
                ("told 1 0", "no"),
                # All desks stay up.
                ("choice 9", "letters 0"),
                ("cancel 0 0", "deed 1"),
                ("choice 8", "letters 1"),
                ("told 0 1", "yes"),
                ("choice 0", "letters 1"),
            ],
        )

    def test_no_letter_is_removed_while_deeds_are_asked(self):
        # The ask of the seller 1 is the oldest letter of a full net: it is in time only if it is not removed.
        setup = plain_setup((1,), 1, 2)
        want = move(setup, 0, 0, 0, times=1)
        desk = desk_with("inn 1 1 2", "wish 1 0:0-1", "wish 0 0:0-1", f"choice {ask(1)}", f"choice {want}")
        for _ in range(298):
            answer = desk.do(f"choice {choice(5, 1)}")
        self.assertEqual(answer, "letters 300")
        self.assert_answers(desk, [("settle", "settled"), ("told 1 0", "yes"), ("told 0 0", "no")])

    def test_more_deeds_than_the_net_has_letters(self):
        desk = desk_with("inn 1 1 1", *["wish 0 0:0-1"] * 400)
        self.assert_answers(
            desk,
            [
                ("settle", "settled"),
                ("row 400", "told 0 0 yes"),
                ("row 799", "told 0 399 no"),
                ("row 800", "nothing"),
                ("books 0", "alike"),
                ("free 0", "0"),
            ],
        )


class BadLineTest(DeskCase):
    def inn(self):
        return desk_with("inn 1 2 1", "wish 0 0:0-1", "choice 8")

    def assert_bad_and_without_effect(self, line, desk=None):
        desk = desk or self.inn()
        plain = copy.deepcopy(desk)
        self.assert_bad(desk, line)
        for other in GOOD_LINES[1:] + [f"row {index}" for index in range(6)] + ["choice 6", "free 0"]:
            self.assertEqual(desk.do(other), plain.do(other), (line, other))

    def test_the_good_lines_are_good(self):
        for line in GOOD_LINES:
            self.inn().do(line)

    def test_lines_before_the_first_inn(self):
        desk = Desk()
        for line in GOOD_LINES[1:]:
            self.assert_bad(desk, line)
        self.assert_bad(desk, "inn 1 2 0")
        for line in GOOD_LINES[1:]:
            self.assert_bad(desk, line)
        self.assertEqual(desk.do("inn 1 2 1"), "ready")
        self.assertEqual(desk.do("wish 0 0:0-1"), "deed 0")

    def test_words_too_many_or_too_few(self):
        for line in GOOD_LINES:
            words = line.split(" ")
            for spoilt in [words + ["0"], words + [""], [""] + words, words[:1] + [""] + words[1:]]:
                self.assert_bad_and_without_effect(" ".join(spoilt))
            for at in range(len(words)):
                self.assert_bad_and_without_effect(" ".join(words[:at] + words[at + 1 :]))
                if at > 0:
                    self.assert_bad_and_without_effect(" ".join(words[:at] + ["", ""] + words[at + 1 :]))

    def test_other_words(self):
        for line in ("", " ", "  ", "inns 1 2 1", "Inn 1 2 1", "SETTLE", "settled", "hope 0 0:0-1", "ask 0 0:0-1"):
            self.assert_bad_and_without_effect(line)
        for line in ("tick 0", "rows 0", "row", "0", "0 0:0-1", "ready", "give 0 0 0", "sold 0 0:0-1 1 0", "told 0"):
            self.assert_bad_and_without_effect(line)
        for line in ("wish 0 cancel", "cancel 0 0:0-1", "cancel 0 0 0:0-1", "change 0 0", "change 0 0:0-1 0"):
            self.assert_bad_and_without_effect(line)

    def test_line_feeds_and_other_blanks(self):
        for line in GOOD_LINES:
            for blank in ("\n", "\r", "\t", "\x0b", "\u00a0", "\r\n"):
                self.assert_bad_and_without_effect(line + blank)
                self.assert_bad_and_without_effect(blank + line)
                if " " in line:
                    self.assert_bad_and_without_effect(line.replace(" ", blank))
        self.assert_bad_and_without_effect("settle\nsettle")

    def test_spoilt_numbers_at_any_place(self):
        for line in GOOD_LINES:
            words = line.split(" ")
            for at, word in enumerate(words):
                if word.isdigit():
                    for number in BAD_NUMBERS:
                        self.assert_bad_and_without_effect(" ".join(words[:at] + [number] + words[at + 1 :]))

    def test_spoilt_parties(self):
        for party in BAD_PARTIES:
            self.assert_bad_and_without_effect(f"wish 0 {party}")
            self.assert_bad_and_without_effect(f"change 0 0 {party}")
        for number in BAD_NUMBERS:
            for party in (f"{number}:0-1", f"0:{number}-2", f"0:0-{number}"):
                self.assert_bad_and_without_effect(f"wish 0 {party}")

    def test_parties_that_are_none_of_the_inn(self):
        for party in ("1:0-1", "0:0-3", "0:2-3", "0:0-1+1:0-1", "999999999999:0-1", "0:0-999999999999"):
            self.assert_bad_and_without_effect(f"wish 0 {party}")
            self.assert_bad_and_without_effect(f"change 0 0 {party}")
        desk = desk_with("inn 1,0 3 1")
        self.assert_answers(desk, [("wish 0 0:2-3", "deed 0"), ("wish 0 1:0-3", "deed 1")])

    def test_numbers_that_are_not_less(self):
        for number in (1, 2, 999999999999):
            self.assert_bad_and_without_effect(f"cancel 0 {number}")
            self.assert_bad_and_without_effect(f"change 0 {number} 0:0-1")
        desk = desk_with("inn 1 2 2", "wish 0 0:0-1")
        self.assert_bad(desk, "cancel 1 0")
        self.assert_bad(desk, "change 1 0 0:0-1")
        self.assert_answers(desk, [("cancel 0 0", "deed 1"), ("wish 1 0:0-1", "deed 0"), ("cancel 1 0", "deed 1")])

    def test_sellers_and_kinds_that_are_none_of_the_inn(self):
        for line in (
            "wish 1 0:0-1",
            "cancel 1 0",
            "change 1 0 0:0-1",
            "told 1 0",
            "free 1",
            "books 1",
            "wish 999999999999 0:0-1",
            "told 4 0",
            "free 999999999999",
            "books 999999999999",
        ):
            self.assert_bad_and_without_effect(line)
        desk = desk_with("inn 1,1,1 2 4")
        self.assert_answers(desk, [("books 3", "alike"), ("free 2", "1 1"), ("told 3 0", "nothing")])
        self.assert_bad(desk, "books 4")
        self.assert_bad(desk, "free 3")
        self.assert_bad(desk, "told 4 0")

    def test_inns_that_make_no_setup(self):
        for line in (
            "inn 5 2 1",
            "inn 1,5 2 1",
            "inn 1,1,1,1 2 1",
            "inn 999999999999 2 1",
            "inn 1 0 1",
            "inn 1 13 1",
            "inn 1 999999999999 1",
            "inn 1 2 0",
            "inn 1 2 5",
            "inn 1 2 999999999999",
            "inn , 2 1",
            "inn 1, 2 1",
            "inn ,1 2 1",
            "inn 1,,1 2 1",
            "inn 1;1 2 1",
            "inn 1:1 2 1",
            "inn 1,01 2 1",
            "inn 1,-1 2 1",
            "inn 1,1 2,2 1",
            "inn 1 2 1,1",
            "inn 1, 1 2 1",
        ):
            self.assert_bad_and_without_effect(line)
            self.assert_bad(Desk(), line)

    def test_what_is_no_text(self):
        for line in (None, 0, b"settle", ["settle"], ("choice", 0)):
            self.assert_bad_and_without_effect(line)


class RandomDeskTest(DeskCase):
    def deed_line(self, source, world):
        """Return the line of a deed, of any seller, and what it appends to which list."""
        seller = source.randrange(len(world.sellers))
        number = len(world.deeds[seller])
        form = source.choice(("wish", "wish", "cancel", "change")) if number else "wish"
        named = () if form == "wish" else (source.choice((0, source.randrange(number))),)
        party = () if form == "cancel" else (random_party(source, len(world.setup[0]), world.setup[1]),)
        words = [form, str(seller)] + [str(item) for item in named] + [format_party(item) for item in party]
        return " ".join(words), seller, (form,) + named + party

    def check_views(self, desk, world, source):
        """What the desk says of its world is so in this one."""
        seller = source.randrange(len(world.sellers))
        number = source.randrange(len(world.deeds[seller]) + 2)
        told = {row[1:3]: row[3] for row in world.history if row[0] == "told"}
        answer = {True: "yes", False: "no", None: "nothing"}[told.get((seller, number))]
        self.assertEqual(desk.do(f"told {seller} {number}"), answer)
        many = len(world.sellers[seller].book) - len(world.house.books[seller])
        self.assertEqual(desk.do(f"books {seller}"), f"under way {many}" if many else "alike")
        kind = source.randrange(len(world.setup[0]))
        stays = [stay for each in world.sellers for party in each.vouchers.values() for stay in party]
        free = [
            world.setup[0][kind] - sum((kind, night) in nights_of(stay) for stay in stays)
            for night in range(world.setup[1])
        ]
        self.assertEqual(desk.do(f"free {kind}"), " ".join(str(number) for number in free))
        index = source.randrange(len(world.history) + 2)
        row = format_history(world.history[index : index + 1])
        self.assertEqual(desk.do(f"row {index}"), row[:-1] or "nothing")

    def check_step(self, desk, world, source, fill):
        action = source.choice(("deed", "choice", "choice", "choice", "view", "settle" if source.random() < 0.1 else ""))
        if action == "deed":
            line, seller, deed = self.deed_line(source, world)
            self.assertEqual(desk.do(line), f"deed {len(world.deeds[seller])}")
            world.deeds[seller].append(deed)
        elif action == "choice":
            number = choice(source.choice((5, 6)), source.randrange(99)) if fill else random_choice(source)
            world.choose(number)
            self.assertEqual(desk.do(f"choice {number}"), f"letters {len(world.net)}")
        elif action == "settle":
            settle(world)
            self.assertEqual(desk.do("settle"), "settled")
        else:
            self.check_views(desk, world, source)

    def test_the_answers_are_those_of_a_world(self):
        rows = 0
        desk = Desk()
        for seed in range(120):
            source = random.Random(seed)
            rooms = tuple(source.choice((0, 1, 1, 2, 4)) for _ in range(source.choice((1, 1, 2, 3))))
            nights, sellers = source.choice((1, 2, 3, 12)), source.randint(1, 4)
            world = World(plain_setup(rooms, nights, sellers), [[] for _ in range(sellers)])
            self.assertEqual(desk.do(f"inn {','.join(str(number) for number in rooms)} {nights} {sellers}"), "ready")
            for step in range(150):
                # Now and then many letters are copied, so that the net runs over.
                self.check_step(desk, world, source, seed % 4 == 0 and step > 30)
            history = parse_history(format_history(world.history))
            lines = [desk.do(f"row {index}") for index in range(len(history) + 1)]
            self.assertEqual(lines, format_history(history).split("\n")[:-1] + ["nothing"])
            rows += len(lines)
        self.assertGreater(rows, 2000)

    def test_what_a_desk_tells_is_explained(self):
        for seed in range(60):
            source = random.Random(seed)
            desk = desk_with("inn 1,2 3 2")
            world = World(plain_setup((1, 2), 3, 2), [[], []])
            for _ in range(7):
                line, seller, deed = self.deed_line(source, world)
                world.deeds[seller].append(deed)
                desk.do(line)
                for _ in range(source.randrange(20)):
                    desk.do(f"choice {random_choice(source)}")
            desk.do("settle")
            rows = [desk.do(f"row {index}") + "\n" for index in range(14)]
            self.assertIsNotNone(judge_history((1, 2), 3, parse_history("".join(rows))))
            self.assertEqual(desk.do("row 14"), "nothing")

    def test_desks_that_go_down_and_letters_that_arrive(self):
        desk = desk_with("inn 1 1 1", "wish 0 0:0-1", f"choice {ask(0)}", f"choice {turn(-1)}")
        self.assert_answers(
            desk,
            [
                (f"choice {deliver(0)}", "letters 0"),
                (f"choice {turn(-1)}", "letters 0"),
                ("settle", "settled"),
                ("told 0 0", "yes"),
            ],
        )


if __name__ == "__main__":
    unittest.main()
