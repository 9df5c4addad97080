"""The plain book beside the desks: it is asked at each moment at which they decide a deed."""

from manydoors.inn import Book


class Watch:
    """Explains what is told, deed by deed, at a moment between asking and telling."""

    def __init__(self, test, setup):
        self.test = test
        self.book = Book(setup[0], setup[1])
        self.deeds = {}
        self.refused = {}
        self.told = {}
        self.read = 0

    def read_on(self, history):
        """Take note of the rows of the history that have come since the last time."""
        for row in history[self.read :]:
            if row[0] == "asked":
                self.note_asked(row[1:3], row[3])
            else:
                self.test.assertEqual(row[0], "told")
                self.note_told(row[1:3], row[3])
        self.read = len(history)

    def note_asked(self, name, deed):
        self.test.assertNotIn(name, self.deeds)
        self.deeds[name] = deed

    def note_sent(self, bodies):
        """Look for refusals in what the house sends: at this moment there must be too few rooms."""
        for seller, body in bodies:
            if body[0] == "open" and body[2] is not None and not body[2][1]:
                name = (seller, body[2][0])
                self.test.assertIs(self.do(name), False, name)
                self.refused[name] = True

    def note_told(self, name, granted):
        self.test.assertIn(name, self.deeds)
        self.test.assertNotIn(name, self.told)
        self.test.assertIsInstance(granted, bool)
        self.told[name] = granted
        if name in self.refused:
            self.test.assertIs(granted, False)
        else:
            self.test.assertIs(self.do(name), granted, name)

    def do(self, name):
        """Do the deed in the plain book; a refused one changes nothing there."""
        deed = self.deeds[name]
        if deed[0] == "wish":
            return self.book.wish(name, deed[1])
        if deed[0] == "cancel":
            return self.book.cancel((name[0], deed[1]))
        return self.book.change((name[0], deed[1]), deed[2])

    def check_vouchers(self, sellers):
        """The vouchers are the parties that the plain book keeps."""
        vouchers = {
            (number, wish): party for number, seller in enumerate(sellers) for wish, party in seller.vouchers.items()
        }
        self.test.assertEqual(vouchers, self.book.parties())


def watch_world(test, world):
    """Return a watch that is told of all refusals in the world; it reads the history when it is asked to."""
    watch = Watch(test, world.setup)
    plain_bodies = world.house.bodies

    def watched_bodies():
        bodies = plain_bodies()
        # What was told before the house decides is in the history already.
        watch.read_on(world.history)
        watch.note_sent(bodies)
        return bodies

    world.house.bodies = watched_bodies
    return watch
