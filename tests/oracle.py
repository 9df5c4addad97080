"""Points 5 and 22 in the most plain way: all orders of all lists of deeds, and rooms counted night by night."""

from itertools import combinations, permutations

from tests.samples import nights_of


class PlainRooms:
    """The plain book, which counts the stays in each night anew for each deed."""

    def __init__(self, rooms):
        self.rooms = rooms
        self.kept = {}

    def fits(self, parties):
        cells = [cell for party in parties for stay in party for cell in nights_of(stay)]
        return all(cells.count(cell) <= self.rooms[cell[0]] for cell in cells)

    def do(self, name, deed):
        if deed[0] == "wish":
            granted = self.fits(list(self.kept.values()) + [deed[1]])
            if granted:
                self.kept[name] = deed[1]
            return granted
        kept = (name[0], deed[1])
        if kept not in self.kept:
            return False
        if deed[0] == "cancel":
            del self.kept[kept]
            return True
        granted = self.fits([party for other, party in self.kept.items() if other != kept] + [deed[2]])
        if granted:
            self.kept[kept] = deed[2]
        return granted


def read_history(history):
    """Return the deeds and the answers by names, and for each name what was told before it was asked."""
    deeds, told, before = {}, {}, {}
    for form, seller, number, last in history:
        if form == "asked":
            deeds[(seller, number)] = last
            before[(seller, number)] = set(told)
        else:
            told[(seller, number)] = last
    return deeds, told, before


def explains(rooms, history, names):
    """Tell whether the list of names explains the history, as point 22 says it."""
    deeds, told, before = read_history(history)
    if len(set(names)) != len(names) or not set(told) <= set(names) <= set(deeds):
        return False
    book = PlainRooms(rooms)
    for at, name in enumerate(names):
        if not before[name] <= set(names[:at]):
            return False
        granted = book.do(name, deeds[name])
        if name in told and told[name] is not granted:
            return False
    return True


def explanations(rooms, history):
    """Yield each list of names that explains the history; all of them are tried."""
    deeds, told, _ = read_history(history)
    untold = [name for name in deeds if name not in told]
    for many in range(len(untold) + 1):
        for more in combinations(untold, many):
            for names in permutations(list(told) + list(more)):
                if explains(rooms, history, list(names)):
                    yield list(names)


def is_explained(rooms, history):
    return any(True for _ in explanations(rooms, history))


def parties_behind(rooms, history, names):
    """Return the parties that the plain book keeps behind these names."""
    deeds = read_history(history)[0]
    book = PlainRooms(rooms)
    for name in names:
        book.do(name, deeds[name])
    return book.kept
