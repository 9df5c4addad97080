"""The texts of parties, histories and books: what is written in words, and read from them again."""

from manydoors.errors import BadText
from manydoors.inn import MOST_STAYS

MOST_DIGITS = 12

# How many words the row of a book has, by its first one.
BOOK_WORDS = {"sold": 5, "cancelled": 4, "changed": 7}


def format_party(party):
    """Return the text of a party."""
    return "+".join([f"{kind}:{first}-{end}" for kind, first, end in party])


def format_deed(deed):
    """Return the text of a deed."""
    return format_items(deed)


def format_history(history):
    """Return the text of a history."""
    return format_lines([format_history_row(row) for row in history])


def format_history_row(row):
    """Return the text of a row of a history, without a line feed."""
    form, seller, number, last = row
    if form == "asked":
        return f"asked {seller} {number} {format_deed(last)}"
    answer = "yes" if last else "no"
    return f"told {seller} {number} {answer}"


def format_book(book):
    """Return the text of a book."""
    return format_lines([format_items(row) for row in book])


def format_items(items):
    """Return the text of words, numbers and parties, with a blank between them."""
    return " ".join([format_party(item) if isinstance(item, tuple) else str(item) for item in items])


def format_lines(lines):
    """Return the text of the lines, each with a line feed behind it."""
    return "".join([line + "\n" for line in lines])


def parse_party(text):
    """Return the party of a text."""
    check_text(text)
    party = tuple([parse_stay(word) for word in text.split("+")])
    if len(party) > MOST_STAYS or sorted(party) != list(party):
        raise BadText("a party is 1 to 4 stays in ascending order")
    return party


def parse_history(text):
    """Return the history of a text."""
    return [parse_history_row(line.split(" ")) for line in lines_of(text)]


def parse_book(text):
    """Return the book of a text."""
    return [parse_book_row(line.split(" ")) for line in lines_of(text)]


def check_text(text):
    """Raise BadText for what is no text."""
    if not isinstance(text, str):
        raise BadText("only a text can be read")


def lines_of(text):
    """Return the list of the lines of a text, without the line feeds."""
    check_text(text)
    lines = text.split("\n")
    # Behind the last line feed there is nothing, and an empty text has no line.
    if lines.pop() != "":
        raise BadText("a line feed follows each row")
    return lines


def parse_history_row(words):
    """Return the row of a history that these words make."""
    if len(words) < 4:
        raise BadText("a row of a history has at least four words")
    form, seller, number = words[0], parse_integer(words[1]), parse_integer(words[2])
    if form == "asked":
        return ("asked", seller, number, parse_deed(words[3:]))
    if form == "told" and words[3:] in (["yes"], ["no"]):
        return ("told", seller, number, words[3] == "yes")
    raise BadText("a row of a history is asked or told")


def parse_deed(words):
    """Return the deed that these words make."""
    form = words[0]
    if form == "wish" and len(words) == 2:
        return ("wish", parse_party(words[1]))
    if form == "cancel" and len(words) == 2:
        return ("cancel", parse_integer(words[1]))
    if form == "change" and len(words) == 3:
        return ("change", parse_integer(words[1]), parse_party(words[2]))
    raise BadText("a deed is a wish, a cancel or a change")


def parse_book_row(words):
    """Return the row of a book that these words make."""
    form = words[0]
    if len(words) != BOOK_WORDS.get(form):
        raise BadText("a row of a book is sold, cancelled or changed")
    number = parse_integer(words[1])
    if form == "cancelled":
        return ("cancelled", number) + parse_integers(words[2:])
    return (form, number, parse_party(words[2])) + parse_integers(words[3:])


def parse_stay(text):
    """Return the stay of a text."""
    # Where a sign is missing, the part behind it is empty, and that is no integer.
    kind, _, nights = text.partition(":")
    first, _, end = nights.partition("-")
    stay = parse_integers([kind, first, end])
    if stay[1] >= stay[2]:
        raise BadText("the end of a stay is behind its first night")
    return stay


def parse_integers(words):
    """Return the tuple of the integers of the words."""
    return tuple([parse_integer(word) for word in words])


def parse_integer(text):
    """Return the integer of a text."""
    # There are digits beyond ASCII, too, which are none here.
    if len(text) > MOST_DIGITS or not text.isascii() or not text.isdigit():
        raise BadText("an integer is 1 to 12 digits")
    if text.startswith("0") and text != "0":
        raise BadText("an integer has no leading zeros")
    return int(text)
