"""Point 25: parties, histories and books are written as texts, and read from them again."""

import copy
import random
import re
import unittest

from manydoors.errors import BadText
from manydoors.texts import format_book, format_history, format_party, parse_book, parse_history, parse_party
from tests.spoilt import BAD_NUMBERS, BAD_PARTIES
from tests.worlds import random_choice, random_party, random_world

MOST = 10**12 - 1

PARTIES = {
    "0:0-1": ((0, 0, 1),),
    "2:0-12": ((2, 0, 12),),
    "0:1-3+1:2-4": ((0, 1, 3), (1, 2, 4)),
    "0:1-3+0:1-3": ((0, 1, 3), (0, 1, 3)),
    "0:1-3+0:1-10+0:2-3": ((0, 1, 3), (0, 1, 10), (0, 2, 3)),
    "2:1-2+10:0-1": ((2, 1, 2), (10, 0, 1)),
    "0:0-1+0:0-1+0:0-1+0:0-1": ((0, 0, 1),) * 4,
    "0:5-6+1:4-7+2:3-8+3:2-9": ((0, 5, 6), (1, 4, 7), (2, 3, 8), (3, 2, 9)),
    "999999999999:999999999998-999999999999": ((MOST, MOST - 1, MOST),),
    "100:20-30": ((100, 20, 30),),
}

HISTORY = [
    ("asked", 0, 0, ("wish", ((0, 1, 3), (1, 2, 4)))),
    ("asked", 3, 0, ("wish", ((0, 0, 1),))),
    ("told", 0, 0, True),
    ("asked", 0, 1, ("change", 0, ((0, 1, 3),))),
    ("told", 3, 0, False),
    ("asked", 0, 2, ("cancel", 0)),
    ("told", 0, 2, True),
]
HISTORY_TEXT = (
    "asked 0 0 wish 0:1-3+1:2-4\n"
    "asked 3 0 wish 0:0-1\n"
    "told 0 0 yes\n"
    "asked 0 1 change 0 0:1-3\n"
    "told 3 0 no\n"
    "asked 0 2 cancel 0\n"
    "told 0 2 yes\n"
)

BOOK = [
    ("sold", 0, ((0, 1, 3), (1, 2, 4)), 1152, 171),
    ("sold", 12, ((0, 0, 1),), 0, 0),
    ("changed", 0, ((0, 1, 3),), 53, 7, 1152, 171),
    ("cancelled", 12, 0, 0),
    ("cancelled", 0, MOST, 100),
]
BOOK_TEXT = (
    "sold 0 0:1-3+1:2-4 1152 171\n"
    "sold 12 0:0-1 0 0\n"
    "changed 0 0:1-3 53 7 1152 171\n"
    "cancelled 12 0 0\n"
    "cancelled 0 999999999999 100\n"
)

NO_TEXTS = [None, 0, True, b"", b"0:1-2", [], ["0:1-2"], (), ((0, 1, 2),), {}, 7]

NUMBER = "(?:0|[1-9][0-9]{0,11})"
PARTY = f"{NUMBER}:{NUMBER}-{NUMBER}(?:\\+{NUMBER}:{NUMBER}-{NUMBER}){{0,3}}"
DEED = f"(?:wish {PARTY}|cancel {NUMBER}|change {NUMBER} {PARTY})"
HISTORY_ROW = f"(?:asked {NUMBER} {NUMBER} {DEED}|told {NUMBER} {NUMBER} (?:yes|no))"
BOOK_ROW = (
    f"(?:sold {NUMBER} {PARTY} {NUMBER} {NUMBER}|cancelled {NUMBER} {NUMBER} {NUMBER}"
    f"|changed {NUMBER} {PARTY} {NUMBER} {NUMBER} {NUMBER} {NUMBER})"
)


def has_form(pattern, text):
    """Tell whether text is of this form, and its parties are in order."""
    if re.fullmatch(pattern, text) is None:
        return False
    for party in re.findall("[0-9:+-]*:[0-9:+-]*", text):
        stays = [tuple(int(number) for number in re.split("[:-]", stay)) for stay in party.split("+")]
        if sorted(stays) != stays or any(first >= end for _, first, end in stays):
            return False
    return True


def spoilt(source, text):
    """Return the text with a few signs left out, put in or put in the place of others."""
    for _ in range(source.choice((1, 1, 1, 2))):
        at = source.randrange(len(text) + 1)
        put = source.choice(("", source.choice("0123456789:-+ \n"), source.choice(("0", "yes", "no", "\r", "\u0661"))))
        text = text[:at] + put + text[at + source.choice((0, 1)) :]
    return text


class TextCase(unittest.TestCase):
    def assert_bad(self, parse, text):
        with self.subTest(text=text), self.assertRaises(BadText) as caught:
            parse(text)
        self.assertIs(type(caught.exception), BadText)

    def assert_read_exactly_if_it_has_the_form(self, parse, pattern, write, texts):
        """Texts are spoilt at random; those that still have the form are read, the other ones are not."""
        source = random.Random(25)
        read = 0
        for _ in range(4000):
            text = spoilt(source, source.choice(texts))
            if has_form(pattern, text):
                self.assertEqual(write(parse(text)), text)
                read += 1
            else:
                self.assert_bad(parse, text)
        self.assertGreater(read, 100)
        self.assertLess(read, 3900)


class PartyTextTest(TextCase):
    def test_parties_are_written(self):
        for text, party in PARTIES.items():
            self.assertEqual(format_party(party), text)

    def test_parties_are_read(self):
        for text, party in PARTIES.items():
            self.assertEqual(parse_party(text), party)
            self.assertIs(type(parse_party(text)), tuple)
            self.assertTrue(all(type(stay) is tuple for stay in parse_party(text)))

    def test_random_parties_come_back(self):
        source = random.Random(1)
        for _ in range(300):
            party = random_party(source, 3, 12)
            self.assertEqual(parse_party(format_party(party)), party)

    def test_other_texts_are_bad(self):
        for text in BAD_PARTIES:
            self.assert_bad(parse_party, text)

    def test_spoilt_numbers_are_bad_at_any_place(self):
        for number in BAD_NUMBERS:
            for text in (f"{number}:1-2", f"0:{number}-2", f"0:1-{number}", f"0:0-1+0:1-{number}"):
                self.assert_bad(parse_party, text)

    def test_numbers_have_at_most_twelve_digits(self):
        self.assertEqual(parse_party("0:1-100000000000"), ((0, 1, 10**11),))
        self.assert_bad(parse_party, "0:1-1000000000000")
        self.assert_bad(parse_party, "1000000000000:1-2")
        self.assert_bad(parse_party, "0:1-" + "1" * 5000)

    def test_what_is_no_text_is_bad(self):
        for value in NO_TEXTS:
            self.assert_bad(parse_party, value)

    def test_just_the_texts_of_the_form_are_read(self):
        self.assert_read_exactly_if_it_has_the_form(parse_party, PARTY, format_party, list(PARTIES))


class HistoryTextTest(TextCase):
    def test_histories_are_written(self):
        self.assertEqual(format_history(HISTORY), HISTORY_TEXT)
        self.assertEqual(format_history([]), "")
        self.assertEqual(format_history([("told", MOST, 10, False)]), "told 999999999999 10 no\n")
        self.assertEqual(format_history([("asked", 1, 2, ("cancel", MOST))]), "asked 1 2 cancel 999999999999\n")

    def test_histories_are_read(self):
        self.assertEqual(parse_history(HISTORY_TEXT), HISTORY)
        self.assertEqual(parse_history(""), [])
        rows = parse_history(HISTORY_TEXT)
        self.assertIs(type(rows), list)
        self.assertTrue(all(type(row) is tuple for row in rows))
        self.assertTrue(all(type(row[3]) in (tuple, bool) for row in rows))

    def test_each_row_is_read_by_itself(self):
        for row in HISTORY:
            self.assertEqual(parse_history(format_history([row])), [row])

    def test_what_is_written_stays_as_it_is(self):
        history = copy.deepcopy(HISTORY)
        format_history(history)
        self.assertEqual(history, HISTORY)

    def test_rows_need_not_fit_one_another(self):
        rows = [
            ("told", 7, 9, True),
            ("told", 7, 9, False),
            ("asked", 999, 5, ("cancel", 5)),
            ("asked", 999, 5, ("change", 6, ((77, 88, 99),))),
        ]
        self.assertEqual(parse_history(format_history(rows)), rows)
        self.assertEqual(parse_history("told 0 0 yes\n" * 9), [("told", 0, 0, True)] * 9)

    def test_other_rows_are_bad(self):
        for row in (
            "",
            " ",
            "asked",
            "told",
            "asked 0 0",
            "told 0 0",
            "told 0 yes",
            "told yes 0 0",
            "told 0 0 yes no",
            "told 0 0 yes ",
            " told 0 0 yes",
            "told  0 0 yes",
            "told\t0 0 yes",
            "told 0 0  yes",
            "told 0 0 Yes",
            "told 0 0 True",
            "told 0 0 1",
            "told 0 0 nothing",
            "Told 0 0 yes",
            "tell 0 0 yes",
            "told 0 0 wish 0:1-2",
            "told 0 0 yes\r",
            "asked 0 0 yes",
            "asked 0 0 wish",
            "asked 0 0 wish ",
            "asked 0 wish 0:1-2",
            "asked wish 0 0 0:1-2",
            "asked 0 0 0:1-2",
            "asked 0 0 wish 0:1-2 0:1-2",
            "asked 0 0 wish 0:1-2 ",
            "asked 0 0 wish  0:1-2",
            "asked 0 0 wish 0",
            "asked 0 0 Wish 0:1-2",
            "asked 0 0 hope 0:1-2",
            "asked 0 1 wish 0 0:1-2",
            "asked 0 1 cancel",
            "asked 0 1 cancel 0:1-2",
            "asked 0 1 cancel 0 0",
            "asked 0 1 cancel 0 0:1-2",
            "asked 0 1 change 0",
            "asked 0 1 change 0:1-2",
            "asked 0 1 change 0:1-2 0",
            "asked 0 1 change 0 0",
            "asked 0 1 change 0 0:1-2 0:1-2",
            "asked 0 1 change 0 0:1-2 0",
            "sold 0 0:1-2 10 1",
            "cancelled 0 10 1",
            "changed 0 0:1-2 10 1 10 1",
        ):
            self.assert_bad(parse_history, row + "\n")
            self.assert_bad(parse_history, HISTORY_TEXT + row + "\n")
            self.assert_bad(parse_history, row + "\n" + HISTORY_TEXT)

    def test_spoilt_parties_and_numbers_are_bad_at_any_place(self):
        for party in BAD_PARTIES:
            self.assert_bad(parse_history, f"asked 0 0 wish {party}\n")
            self.assert_bad(parse_history, f"asked 0 1 change 0 {party}\n")
        for number in BAD_NUMBERS:
            for row in (
                f"asked {number} 0 wish 0:1-2",
                f"asked 0 {number} wish 0:1-2",
                f"asked 0 1 cancel {number}",
                f"asked 0 1 change {number} 0:1-2",
                f"told {number} 0 no",
                f"told 0 {number} no",
            ):
                self.assert_bad(parse_history, row + "\n")

    def test_each_row_has_one_line_feed(self):
        for text in (
            "\n",
            "\n\n",
            HISTORY_TEXT[:-1],
            HISTORY_TEXT + "\n",
            "\n" + HISTORY_TEXT,
            HISTORY_TEXT.replace("\n", "\n\n", 1),
            HISTORY_TEXT.replace("\n", " ", 1),
            HISTORY_TEXT.replace("\n", "\r\n"),
            HISTORY_TEXT.replace("\n", "\r"),
            HISTORY_TEXT.replace("\n", "\x0b"),
            HISTORY_TEXT.replace("\n", "\x0c"),
            HISTORY_TEXT.replace("\n", "\u2028"),
            HISTORY_TEXT + " ",
        ):
            self.assert_bad(parse_history, text)

    def test_what_is_no_text_is_bad(self):
        for value in NO_TEXTS + [HISTORY]:
            self.assert_bad(parse_history, value)

    def test_just_the_texts_of_the_form_are_read(self):
        texts = HISTORY_TEXT.splitlines(keepends=True) + [HISTORY_TEXT]
        self.assert_read_exactly_if_it_has_the_form(parse_history, f"(?:{HISTORY_ROW}\n)*", format_history, texts)


class BookTextTest(TextCase):
    def test_books_are_written(self):
        self.assertEqual(format_book(BOOK), BOOK_TEXT)
        self.assertEqual(format_book([]), "")
        row = ("changed", MOST, ((0, 0, 1),) * 4, MOST, MOST - 1, MOST - 2, MOST - 3)
        self.assertEqual(
            format_book([row]),
            "changed 999999999999 0:0-1+0:0-1+0:0-1+0:0-1 999999999999 999999999998 999999999997 999999999996\n",
        )

    def test_books_are_read(self):
        self.assertEqual(parse_book(BOOK_TEXT), BOOK)
        self.assertEqual(parse_book(""), [])
        self.assertIs(type(parse_book(BOOK_TEXT)), list)
        self.assertTrue(all(type(row) is tuple for row in parse_book(BOOK_TEXT)))

    def test_each_row_is_read_by_itself(self):
        for row in BOOK:
            self.assertEqual(parse_book(format_book([row])), [row])

    def test_what_is_written_stays_as_it_is(self):
        book = copy.deepcopy(BOOK)
        format_book(book)
        self.assertEqual(book, BOOK)

    def test_other_rows_are_bad(self):
        for row in (
            "",
            " ",
            "sold",
            "sold 0",
            "sold 0 0:1-2",
            "sold 0 0:1-2 10",
            "sold 0 0:1-2 10 1 10",
            "sold 0 0:1-2 10 1 ",
            "sold 0 0:1-2 10 1 10 1",
            "sold 0 10 1",
            "sold 0 10 1 0:1-2",
            "sold 0:1-2 0 10 1",
            "sold 0 1 10 1",
            " sold 0 0:1-2 10 1",
            "sold  0 0:1-2 10 1",
            "sold\t0 0:1-2 10 1",
            "Sold 0 0:1-2 10 1",
            "bought 0 0:1-2 10 1",
            "cancelled",
            "cancelled 0",
            "cancelled 0 10",
            "cancelled 0 10 1 1",
            "cancelled 0 0:1-2 10 1",
            "cancelled 0 0:1-2 1",
            "canceled 0 10 1",
            "cancel 0",
            "changed 0 0:1-2",
            "changed 0 0:1-2 10 1",
            "changed 0 0:1-2 10 1 10",
            "changed 0 0:1-2 10 1 10 1 10",
            "changed 0 10 1 10 1 0:1-2",
            "changed 0 0 10 1 10 1",
            "change 0 0:1-2 10 1 10 1",
            "asked 0 0 wish 0:1-2",
            "told 0 0 yes",
        ):
            self.assert_bad(parse_book, row + "\n")
            self.assert_bad(parse_book, BOOK_TEXT + row + "\n")
            self.assert_bad(parse_book, row + "\n" + BOOK_TEXT)

    def test_spoilt_parties_and_numbers_are_bad_at_any_place(self):
        for party in BAD_PARTIES:
            self.assert_bad(parse_book, f"sold 0 {party} 10 1\n")
            self.assert_bad(parse_book, f"changed 0 {party} 10 1 10 1\n")
        for number in BAD_NUMBERS:
            for row in ("sold 0 0:1-2 0 0", "cancelled 0 0 0", "changed 0 0:1-2 0 0 0 0"):
                words = row.split(" ")
                for at in [at for at, word in enumerate(words) if word == "0"]:
                    self.assert_bad(parse_book, " ".join(words[:at] + [number] + words[at + 1 :]) + "\n")

    def test_each_row_has_one_line_feed(self):
        for text in (
            "\n",
            BOOK_TEXT[:-1],
            BOOK_TEXT + "\n",
            "\n" + BOOK_TEXT,
            BOOK_TEXT.replace("\n", " ", 1),
            BOOK_TEXT.replace("\n", "\r\n"),
            BOOK_TEXT.replace("\n", "\x1e"),
        ):
            self.assert_bad(parse_book, text)

    def test_what_is_no_text_is_bad(self):
        for value in NO_TEXTS + [BOOK]:
            self.assert_bad(parse_book, value)

    def test_just_the_texts_of_the_form_are_read(self):
        texts = BOOK_TEXT.splitlines(keepends=True) + [BOOK_TEXT]
        self.assert_read_exactly_if_it_has_the_form(parse_book, f"(?:{BOOK_ROW}\n)*", format_book, texts)


class WorldTextTest(unittest.TestCase):
    def test_the_histories_and_books_of_worlds_come_back(self):
        rows = 0
        for seed in range(40):
            source = random.Random(seed)
            world = random_world(source, 12)
            for _ in range(200):
                world.choose(random_choice(source))
            world.settle()
            self.assertEqual(parse_history(format_history(world.history)), world.history)
            for seller in world.sellers:
                self.assertEqual(parse_book(format_book(seller.book)), seller.book)
                rows += len(seller.book)
        self.assertGreater(rows, 50)


if __name__ == "__main__":
    unittest.main()
