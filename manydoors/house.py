"""The house: its stock, the books that it receives, and the rounds in which it decides what it is asked."""

from manydoors.inn import check_setup, rooms_by_cell


class House:
    """The house of the inn: one round at a time, in which all sellers close the cells of an ask."""

    def __init__(self, setup):
        check_setup(setup)
        self.stock = rooms_by_cell(setup[0], setup[1])
        self.books = [[] for _ in range(setup[2])]
        self.queue = []
        self.round = None
        self._counts = {}
        self._bodies = []

    def handle(self, seller, body):
        """Do what a body from the seller says."""
        if body[0] == "ask":
            self.queue.append((seller, body[1], body[2]))
            self._look_for_work()
        elif body[0] == "closed":
            self._take_counts(seller, body[1])
        elif body[0] == "back":
            self.stock[(body[1], body[2])] += 1
        elif body[0] == "entry":
            self.books[seller].append(body[1])

    def give(self, seller, kind, night):
        """Send the seller a night from the stock; tell whether that is possible."""
        if self.round is not None or self.stock[(kind, night)] == 0:
            return False
        self.stock[(kind, night)] -= 1
        self._bodies.append((seller, ("give", kind, night)))
        return True

    def want(self, seller, kind, night):
        """Ask the seller for a free night."""
        self._bodies.append((seller, ("want", kind, night)))

    def bodies(self):
        """Return the list of the pairs (seller, body) to send that have come since it was asked last."""
        bodies = self._bodies
        # The list is the caller's from now on, so the house goes on with another one.
        self._bodies = []
        return bodies

    def _look_for_work(self):
        """Begin the round of the first ask, unless there is a round or no ask."""
        if self.round is not None or not self.queue:
            return
        self.round = self.queue.pop(0)
        cells = tuple([cell for cell, _ in self.round[2]])
        for seller in range(len(self.books)):
            self._bodies.append((seller, ("close", cells)))

    def _take_counts(self, seller, counts):
        """Put what the seller had in the closed cells into the stock; decide if it is the last one."""
        for (cell, _), count in zip(self.round[2], counts):
            self.stock[cell] += count
        self._counts[seller] = counts
        if len(self._counts) == len(self.books):
            self._decide()

    def _decide(self):
        """Grant or refuse the ask of the round, open the cells again, and look for work."""
        asker, number, lack = self.round
        granted = all(self.stock[cell] >= count for cell, count in lack)
        if granted:
            for cell, count in lack:
                self.stock[cell] -= count
        for seller in range(len(self.books)):
            answer = (number, granted) if seller == asker else None
            self._bodies.append((seller, ("open", self._give_back(seller), answer)))
        self.round = None
        self._counts = {}
        self._look_for_work()

    def _give_back(self, seller):
        """Take from the stock what the seller gets back of its counts, as far as it is there; return the numbers."""
        numbers = []
        for (cell, _), count in zip(self.round[2], self._counts[seller]):
            number = min(count, self.stock[cell])
            self.stock[cell] -= number
            numbers.append(number)
        return tuple(numbers)
