"""The inn: its setup and deeds, the plain book, and the housing of stays."""

from manydoors.errors import BadDeed, BadSetup, BadStay

MOST_KINDS = 3
MOST_ROOMS = 4
MOST_NIGHTS = 12
MOST_SELLERS = 4
MOST_PRICE = 1000000
MOST_SHARE = 100
MOST_STAYS = 4


def is_count(value):
    """Tell whether value is an integer from 0 on."""
    # Python counts True and False among the integers, the inn does not.
    return isinstance(value, int) and not isinstance(value, bool) and value >= 0


def is_between(value, least, most):
    """Tell whether value is an integer from least to most, where least is not below 0."""
    return is_count(value) and least <= value <= most


def is_tuple(value, least, most):
    """Tell whether value is a tuple of least to most items."""
    return isinstance(value, tuple) and least <= len(value) <= most


def is_tuple_of_integers(value, least, most, highest):
    """Tell whether value is a tuple of least to most integers from 0 to highest."""
    return is_tuple(value, least, most) and all(is_between(item, 0, highest) for item in value)


def check_setup(setup):
    """Raise BadSetup for what is not a setup."""
    if not is_tuple(setup, 5, 5):
        raise BadSetup("a setup is a tuple (rooms, nights, sellers, prices, share)")
    rooms, nights, sellers, prices, share = setup
    if not is_tuple_of_integers(rooms, 1, MOST_KINDS, MOST_ROOMS):
        raise BadSetup("rooms is a tuple of 1 to 3 integers from 0 to 4")
    if not is_between(nights, 1, MOST_NIGHTS):
        raise BadSetup("nights is an integer from 1 to 12")
    if not is_between(sellers, 1, MOST_SELLERS):
        raise BadSetup("sellers is an integer from 1 to 4")
    if not is_tuple(prices, len(rooms), len(rooms)):
        raise BadSetup("prices is a tuple with one tuple for each kind")
    for row in prices:
        if not is_tuple_of_integers(row, nights, nights, MOST_PRICE):
            raise BadSetup("the prices of a kind are an integer from 0 to 1000000 for each night")
    if not is_between(share, 0, MOST_SHARE):
        raise BadSetup("share is an integer from 0 to 100")


def check_deed(setup, deed):
    """Raise BadDeed for what is not a deed of the setup."""
    if not is_deed(len(setup[0]), setup[1], deed):
        raise BadDeed("a deed is a wish, a cancel or a change with stays of the inn")


def is_deed(kinds, nights, deed):
    """Tell whether deed is one of an inn with so many kinds and nights."""
    if not is_tuple(deed, 2, 3):
        return False
    if deed[0] == "wish":
        return len(deed) == 2 and is_party(kinds, nights, deed[1])
    if deed[0] == "cancel":
        return len(deed) == 2 and is_count(deed[1])
    if deed[0] == "change":
        return len(deed) == 3 and is_count(deed[1]) and is_party(kinds, nights, deed[2])
    return False


def is_party(kinds, nights, party):
    """Tell whether party is a tuple of 1 to 4 stays of such an inn in ascending order."""
    if not is_tuple(party, 1, MOST_STAYS):
        return False
    if not all(is_stay(kinds, nights, stay) for stay in party):
        return False
    return sorted(party) == list(party)


def is_stay(kinds, nights, stay):
    """Tell whether stay is a stay of an inn with so many kinds and nights."""
    if not is_tuple(stay, 3, 3):
        return False
    kind, first, end = stay
    return is_between(kind, 0, kinds - 1) and is_between(end, 1, nights) and is_between(first, 0, end - 1)


def needs_of(party):
    """Return the dictionary from the cells that the stays need to the numbers of stays there."""
    needs = {}
    for kind, first, end in party:
        for night in range(first, end):
            needs[(kind, night)] = needs.get((kind, night), 0) + 1
    return needs


def night_prices(setup, party):
    """Return the list of the prices of all nights of all stays."""
    prices = setup[3]
    return [prices[kind][night] for kind, first, end in party for night in range(first, end)]


def price_of(setup, party):
    """Return the price of a party."""
    return sum(night_prices(setup, party))


def kept_of(setup, party):
    """Return what the seller keeps of the price of a party."""
    share = setup[4]
    # Each price is rounded down by itself: rounding the sum would keep more.
    return sum([price * share // 100 for price in night_prices(setup, party)])


def rooms_by_cell(rooms, nights):
    """Return the dictionary from all cells of the inn to the numbers of rooms of their kinds."""
    return {(kind, night): rooms[kind] for kind in range(len(rooms)) for night in range(nights)}


class Book:
    """The plain book: the parties that are kept, by names (seller, number)."""

    def __init__(self, rooms, nights):
        self._parties = {}
        self._free = rooms_by_cell(rooms, nights)

    def wish(self, name, party):
        """Keep the party by the name if it fits; tell whether it is granted."""
        if not self._fits(party, {}):
            return False
        self._parties[name] = party
        self._add_free(party, -1)
        return True

    def cancel(self, name):
        """Remove the party of the name; tell whether there was one."""
        if name not in self._parties:
            return False
        self._add_free(self._parties[name], 1)
        del self._parties[name]
        return True

    def change(self, name, party):
        """Keep the party in the place of the name's old one if it fits without that; tell whether it is granted."""
        if name not in self._parties:
            return False
        old = self._parties[name]
        if not self._fits(party, needs_of(old)):
            return False
        self._add_free(old, 1)
        self._add_free(party, -1)
        self._parties[name] = party
        return True

    def parties(self):
        """Return a new dictionary from the names to the parties that are kept."""
        return {name: self._parties[name] for name in self._parties}

    def free(self, kind, night):
        """Return the number of rooms minus the needs of all parties that are kept."""
        return self._free.get((kind, night), 0)

    def _fits(self, party, released):
        """Tell whether there are rooms for the party, beside those free also those in released."""
        for (kind, night), number in needs_of(party).items():
            if number > self.free(kind, night) + released.get((kind, night), 0):
                return False
        return True

    def _add_free(self, party, sign):
        """Add the needs of the party to what is free, or take them from it if sign is -1."""
        for cell, number in needs_of(party).items():
            self._free[cell] += sign * number


def housing(rooms, stays, night, given):
    """Return the rooms of the stays: those given, and for the others the least rooms beside them."""
    check_enough_rooms(rooms, stays)
    check_given(rooms, stays, night, given)
    housed = list(given)
    later = sorted([(stays[index][1], index) for index in range(len(stays)) if given[index] is None])
    for _, index in later:
        housed[index] = least_room(stays, housed, index)
    return housed


def check_enough_rooms(rooms, stays):
    """Raise BadStay if in some night there are more stays of a kind than rooms."""
    for (kind, _), number in needs_of(stays).items():
        if number > rooms_of(rooms, kind):
            raise BadStay("in some night there are too many stays of a kind")


def check_given(rooms, stays, night, given):
    """Raise BadStay unless just the stays that have begun in this night have rooms, which do not clash."""
    if len(given) != len(stays):
        raise BadStay("given has one room or None for each stay")
    for index, (kind, first, _) in enumerate(stays):
        room = given[index]
        if (room is not None) != (first <= night):
            raise BadStay("just the stays that have begun have a room given")
        if room is not None and not is_between(room, 0, rooms_of(rooms, kind) - 1):
            raise BadStay("a given room is none of the kind")
        if room is not None and room in rooms_beside(stays[:index], given, stays[index]):
            raise BadStay("two given rooms clash")


def least_room(stays, housed, index):
    """Return the least room that no stay has that meets the one with this index."""
    taken = rooms_beside(stays, housed, stays[index])
    room = 0
    while room in taken:
        room += 1
    return room


def rooms_beside(stays, housed, stay):
    """Return the list of what the stays that meet this one have: rooms, or None."""
    return [housed[index] for index, other in enumerate(stays) if do_meet(other, stay)]


def do_meet(stay, other):
    """Tell whether two stays are of one kind and have a night in common."""
    return stay[0] == other[0] and stay[1] < other[2] and other[1] < stay[2]


def rooms_of(rooms, kind):
    """Return the number of rooms of the kind; a kind that the inn does not have has none."""
    return rooms[kind] if 0 <= kind < len(rooms) else 0
