"""The wire: what a desk keeps for its letters with one other desk."""

# The number of the house among the desks; the sellers are numbered from 0.
HOUSE = -1


class Wire:
    """The count and the outbox of the direction out, and the expected number of the direction in."""

    def __init__(self):
        self.sent = 0
        self.outbox = []
        self.expected = 0

    def send(self, body):
        """Put the body into the outbox, and return its number."""
        number = self.sent
        self.outbox.append((number, body))
        self.sent += 1
        return number

    def take(self, number):
        """Tell whether a data letter with this number is to be handled; it is not expected again then."""
        if number != self.expected:
            return False
        self.expected += 1
        return True

    def acknowledged(self, number):
        """Remove the bodies up to this number from the outbox."""
        self.outbox = [pair for pair in self.outbox if pair[0] > number]
