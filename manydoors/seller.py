"""The seller: what it holds, what it sells from that, and what it asks of the house."""

from manydoors.deeds import lack_of, more_needs, named_by, old_party_of, party_of
from manydoors.inn import check_setup, kept_of, needs_of, price_of, rooms_by_cell


class Seller:
    """A seller of the inn: its free nights, vouchers and book, and the deeds that are not told yet."""

    def __init__(self, setup, number):
        check_setup(setup)
        self.setup = setup
        self.number = number
        self.free = {cell: 0 for cell in rooms_by_cell(setup[0], setup[1])}
        self.vouchers = {}
        self.book = []
        self.closing = None
        self.asked = {}
        self.waiting = []
        self._numbered = 0
        self._bodies = []
        self._answers = []

    def ask(self, deed):
        """Number the deed, do it unless it must wait, and return its number."""
        number = self._numbered
        self._numbered += 1
        self._do_or_wait(number, deed)
        return number

    def handle(self, body):
        """Do what a body from the house says."""
        if body[0] == "give":
            self.free[(body[1], body[2])] += 1
        elif body[0] == "close":
            self._close(body[1])
        elif body[0] == "open":
            self._end_closing(body[1])
            if body[2] is not None:
                self._take_answer(body[2][0], body[2][1])
            self._look_at_waiting()
        elif body[0] == "want":
            self._give_back(body[1], body[2])

    def bodies(self):
        """Return the list of the bodies to send that have come since it was asked last."""
        bodies = self._bodies
        # The list is the caller's from now on, so the seller goes on with another one.
        self._bodies = []
        return bodies

    def answers(self):
        """Return the list of the pairs (number, granted) told since it was asked last."""
        answers = self._answers
        self._answers = []
        return answers

    def _do_or_wait(self, number, deed):
        if self._must_wait(deed):
            self.waiting.append((number, deed))
        else:
            self._do(number, deed)

    def _must_wait(self, deed):
        """Tell whether a cell of the deed is closed, or a change of the voucher that it names is asked."""
        if deed[0] != "wish" and deed[1] in [named_by(other) for other in self.asked.values()]:
            return True
        if self.closing is None:
            return False
        cells = needs_of(party_of(deed) + old_party_of(deed, self.vouchers))
        return any(cell in cells for cell in self.closing)

    def _do(self, number, deed):
        """Do a deed that need not wait: refuse it, carry it out, or ask it of the house."""
        if deed[0] != "wish" and deed[1] not in self.vouchers:
            self._answers.append((number, False))
            return
        lack = lack_of(deed, self.vouchers)
        if all(self.free[cell] >= count for cell, count in lack.items()):
            for cell, count in lack.items():
                self.free[cell] -= count
            self._carry_out(number, deed)
        else:
            self.asked[number] = deed
            self._bodies.append(("ask", number, tuple(sorted(lack.items()))))

    def _carry_out(self, number, deed):
        """Do a deed for which its lack is taken, free what it needs no longer, and tell True."""
        party = party_of(deed)
        old = old_party_of(deed, self.vouchers)
        for cell, count in more_needs(old, party).items():
            self.free[cell] += count
        if deed[0] == "wish":
            self.vouchers[number] = party
            self._write(("sold", number, party) + self._numbers_of(party))
        elif deed[0] == "cancel":
            del self.vouchers[deed[1]]
            self._write(("cancelled", deed[1]) + self._numbers_of(old))
        else:
            self.vouchers[deed[1]] = party
            self._write(("changed", deed[1], party) + self._numbers_of(party) + self._numbers_of(old))
        self._answers.append((number, True))

    def _numbers_of(self, party):
        """Return the price of the party and what the seller keeps of it."""
        return (price_of(self.setup, party), kept_of(self.setup, party))

    def _write(self, row):
        self.book.append(row)
        self._bodies.append(("entry", row))

    def _close(self, cells):
        self._bodies.append(("closed", tuple([self.free[cell] for cell in cells])))
        for cell in cells:
            self.free[cell] = 0
        self.closing = cells

    def _end_closing(self, counts):
        for cell, count in zip(self.closing, counts):
            self.free[cell] += count
        self.closing = None

    def _take_answer(self, number, granted):
        """Do what the house says of a deed that is asked of it."""
        deed = self.asked.pop(number)
        if granted:
            self._carry_out(number, deed)
        else:
            self._answers.append((number, False))

    def _look_at_waiting(self):
        """Look at each deed that waits once, in order."""
        deeds = list(self.waiting)
        # Those that must wait on come into the new list, in their order.
        self.waiting = []
        for number, deed in deeds:
            self._do_or_wait(number, deed)

    def _give_back(self, kind, night):
        if self.free[(kind, night)] > 0:
            self.free[(kind, night)] -= 1
            self._bodies.append(("back", kind, night))
