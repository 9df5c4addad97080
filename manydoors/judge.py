"""The judges: whether a book has arrived as it was written, and whether a history is one of the plain book."""

from manydoors.deeds import do_in_book, is_numbered_deed
from manydoors.errors import BadHistory
from manydoors.inn import Book, is_count, is_tuple

MOST_ASKED = 7


def judge_books(seller_book, house_book):
    """Tell whether the house's book is the seller's one, a beginning of it, or altered."""
    if seller_book == house_book:
        return ("alike",)
    for index, (row, other) in enumerate(zip(seller_book, house_book)):
        if row != other:
            return ("altered", index)
    if len(house_book) > len(seller_book):
        return ("altered", len(seller_book))
    return ("under way", seller_book[len(house_book):])


def takings(book):
    """Return what the house gets of the prices in a book."""
    return sum([takings_of_row(row) for row in book])


def takings_of_row(row):
    """Return what the house gets more by a row of a book; it is below 0 where the house gives back."""
    if row[0] == "sold":
        return row[3] - row[4]
    if row[0] == "cancelled":
        return row[3] - row[2]
    return row[3] - row[4] - row[5] + row[6]


def judge_history(rooms, nights, history):
    """Return a list of names in whose order the plain book tells what the history tells, or None."""
    check_history(len(rooms), nights, history)
    return Trial(rooms, nights, history).explain([], Book(rooms, nights))


def check_history(kinds, nights, history):
    """Raise BadHistory for what is not a history of an inn with so many kinds and nights, or too long to judge."""
    if not isinstance(history, list):
        raise BadHistory("a history is a list of rows")
    numbers = {}
    told = {}
    for row in history:
        if not is_row(row):
            raise BadHistory("a row is (asked, seller, number, deed) or (told, seller, number, granted)")
        form, seller, number, last = row
        if form == "asked":
            if number != numbers.get(seller, 0) or not is_numbered_deed(kinds, nights, number, last):
                raise BadHistory("what is asked is a deed of the inn with the next number of its seller")
            numbers[seller] = number + 1
        else:
            if number >= numbers.get(seller, 0) or (seller, number) in told:
                raise BadHistory("what is told has been asked before, and is told once")
            told[(seller, number)] = True
    if sum(numbers.values()) > MOST_ASKED:
        raise BadHistory("a history to be judged has at most 7 asked rows")


def is_row(row):
    """Tell whether row has the form of a row of a history, whatever the deed of an asked one is."""
    if not is_tuple(row, 4, 4) or not is_count(row[1]) or not is_count(row[2]):
        return False
    return row[0] == "asked" or (row[0] == "told" and isinstance(row[3], bool))


class Trial:
    """The search for an order of the deeds of a history, by their names, that explains it."""

    def __init__(self, rooms, nights, history):
        self.rooms = rooms
        self.nights = nights
        self.deeds = {}
        self.told = {}
        self.before = {}
        self.tried = {}
        for form, seller, number, last in history:
            if form == "asked":
                self.deeds[(seller, number)] = last
                self.before[(seller, number)] = list(self.told)
            else:
                self.told[(seller, number)] = last

    def explain(self, names, book):
        """Return an order that begins with these names, which leave the plain book as it is passed, or None."""
        if all(name in names for name in self.told):
            return names
        # What can follow depends on the deeds that are done and on what is kept, not on the way there.
        state = (tuple(sorted(names)), tuple(sorted(book.parties().items())))
        if state in self.tried:
            return None
        self.tried[state] = True
        for name in self.deeds:
            if self._may_come(names, name):
                order = self._explain_with(names, name)
                if order is not None:
                    return order
        return None

    def _may_come(self, names, name):
        """Tell whether the name is none of these, and each deed that comes before it is one."""
        return name not in names and all(other in names for other in self.before[name])

    def _explain_with(self, names, name):
        """Return an order that begins with these names and this one, or None."""
        book = self._book_behind(names)
        granted = do_in_book(book, name, self.deeds[name])
        # A deed that was not told is of use only if it is granted: otherwise it changes nothing.
        if granted != self.told.get(name, True):
            return None
        return self.explain(names + [name], book)

    def _book_behind(self, names):
        """Return the plain book behind the deeds of these names."""
        book = Book(self.rooms, self.nights)
        for name in names:
            do_in_book(book, name, self.deeds[name])
        return book
