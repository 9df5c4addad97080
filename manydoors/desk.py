"""The desk: a world that is operated by lines of words."""

from manydoors.deeds import is_numbered_deed
from manydoors.errors import BadLine, BadSetup, BadText
from manydoors.inn import MOST_NIGHTS, check_setup, is_between, needs_of
from manydoors.judge import judge_books
from manydoors.texts import format_history_row, parse_deed, parse_integer
from manydoors.world import World


def integer_of(word):
    """Return the integer of a word."""
    try:
        return parse_integer(word)
    except BadText:
        raise BadLine("a number is 1 to 12 digits without leading zeros") from None


def index_of(word, many):
    """Return the integer of a word that is one of so many, counted from 0."""
    index = integer_of(word)
    if index >= many:
        raise BadLine("there is no seller or kind with this number")
    return index


def setup_of(words):
    """Return the setup of the words of an inn."""
    rooms = tuple([integer_of(word) for word in words[1].split(",")])
    nights = integer_of(words[2])
    # This is asked before there are prices for so many nights: they could be too many to be made.
    if not is_between(nights, 1, MOST_NIGHTS):
        raise BadLine("an inn has 1 to 12 nights")
    setup = (rooms, nights, integer_of(words[3]), ((1,) * nights,) * len(rooms), 0)
    try:
        check_setup(setup)
    except BadSetup:
        raise BadLine("the numbers of the inn make no setup") from None
    return setup


def deed_of(world, number, words):
    """Return the deed of the words, which gets this number."""
    try:
        deed = parse_deed(words)
    except BadText:
        raise BadLine("these words make no deed") from None
    if not is_numbered_deed(len(world.setup[0]), world.setup[1], number, deed):
        raise BadLine("the inn has no such stays, or the deed names no lesser number")
    return deed


def do_deed(world, words):
    """Append a deed to the list of a seller."""
    deeds = world.deeds[index_of(words[1], len(world.sellers))]
    number = len(deeds)
    deeds.append(deed_of(world, number, [words[0]] + words[2:]))
    return f"deed {number}"


def do_choice(world, words):
    """Do what a choice says."""
    world.choose(integer_of(words[1]))
    return f"letters {len(world.net)}"


def do_settle(world, _):
    """Ask all deeds that are left, and let the world settle."""
    world.ask_rest()
    world.settle()
    return "settled"


def do_told(world, words):
    """Say what has been told of a deed."""
    seller = index_of(words[1], len(world.sellers))
    number = integer_of(words[2])
    for row in world.history:
        if row[:3] == ("told", seller, number):
            return "yes" if row[3] else "no"
    return "nothing"


def do_free(world, words):
    """Say how many rooms of a kind are not let, for each night."""
    rooms, nights = world.setup[:2]
    kind = index_of(words[1], len(rooms))
    stays = [stay for seller in world.sellers for party in seller.vouchers.values() for stay in party]
    needs = needs_of(stays)
    return " ".join([str(rooms[kind] - needs.get((kind, night), 0)) for night in range(nights)])


def do_books(world, words):
    """Say whether the house has received the book of a seller."""
    seller = index_of(words[1], len(world.sellers))
    verdict = judge_books(world.sellers[seller].book, world.house.books[seller])
    return "alike" if verdict == ("alike",) else f"under way {len(verdict[1])}"


def do_row(world, words):
    """Say what stands in a row of the history."""
    index = integer_of(words[1])
    return format_history_row(world.history[index]) if index < len(world.history) else "nothing"


# How many words a line has, by its first one.
LINE_WORDS = {
    "inn": 4,
    "wish": 3,
    "cancel": 3,
    "change": 4,
    "choice": 2,
    "settle": 1,
    "told": 3,
    "free": 2,
    "books": 2,
    "row": 2,
}

# What does a line in a world, by its first word.
ACTIONS = {
    "wish": do_deed,
    "cancel": do_deed,
    "change": do_deed,
    "choice": do_choice,
    "settle": do_settle,
    "told": do_told,
    "free": do_free,
    "books": do_books,
    "row": do_row,
}


def words_of(line):
    """Return the words of a line, as many as its first one asks for."""
    if not isinstance(line, str):
        raise BadLine("a line is a text")
    words = line.split(" ")
    if len(words) != LINE_WORDS.get(words[0]):
        raise BadLine("a line has one of the first words, and as many words as this one asks for")
    return words


class Desk:
    """The desk at which a world is made and operated, line by line."""

    def __init__(self):
        self._world = None

    def do(self, line):
        """Do what the line says, and return the answer."""
        words = words_of(line)
        if words[0] == "inn":
            setup = setup_of(words)
            self._world = World(setup, [[] for _ in range(setup[2])])
            return "ready"
        if self._world is None:
            raise BadLine("there is no inn yet")
        action = ACTIONS[words[0]]
        return action(self._world, words)
