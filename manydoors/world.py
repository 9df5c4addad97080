"""The world: the desks, the letters between them, and what choices make of both."""

from manydoors.deeds import is_numbered_deed
from manydoors.errors import BadDeed
from manydoors.hands import hands_on_seller, hands_to_house, hands_to_seller
from manydoors.house import House
from manydoors.inn import check_setup
from manydoors.seller import Seller
from manydoors.wire import HOUSE, Wire

MOST_LETTERS = 300
MOST_ROUNDS = 300


def check_deeds(setup, deeds):
    """Raise BadDeed unless deeds is a list with one list of deeds for each seller."""
    if not isinstance(deeds, list) or len(deeds) != setup[2]:
        raise BadDeed("there is one list of deeds for each seller")
    for row in deeds:
        if not isinstance(row, list):
            raise BadDeed("the deeds of a seller are a list")
        for number, deed in enumerate(row):
            if not is_numbered_deed(len(setup[0]), setup[1], number, deed):
                raise BadDeed("a deed has stays of the inn, and a cancel or change names a number less than its own")


class World:
    """The house and its sellers, the net between them, and the deeds that customers will ask."""

    def __init__(self, setup, deeds):
        check_setup(setup)
        check_deeds(setup, deeds)
        many = setup[2]
        self.setup = setup
        self.house = House(setup)
        self.sellers = [Seller(setup, number) for number in range(many)]
        self.net = []
        self.history = []
        self.down = [False] * (many + 1)
        self.deeds = [list(row) for row in deeds]
        self.asked = [0] * many
        self.house_wires = [Wire() for _ in range(many)]
        self.seller_wires = [Wire() for _ in range(many)]

    def choose(self, choice):
        """Do what the choice says if it is possible, and remove the oldest letters if there are too many."""
        action = choice % 10
        argument = choice // 10
        if action <= 5:
            self._choose_letter(action, argument)
        elif action <= 7:
            self._choose_desk(action, argument)
        elif action == 8:
            self._ask(argument % len(self.sellers))
        else:
            self._move_night(argument)
        # New letters are put at the end, so the oldest ones stand first.
        del self.net[:-MOST_LETTERS]

    def settle(self):
        """Bring all desks up, and let them tick and get all letters; tell whether all bodies are acknowledged."""
        self._bring_up()
        for _ in range(MOST_ROUNDS):
            self._tick_all()
            while self.net:
                self._deliver(self.net.pop(0))
            if self._is_acknowledged():
                return True
        return False

    def ask_rest(self):
        """Bring all desks up, and ask all deeds that are left: one of each seller, again and again."""
        self._bring_up()
        # No letter is removed here, however many there are: the desk asks so before it settles.
        for _ in range(max([len(deeds) for deeds in self.deeds])):
            for seller in range(len(self.sellers)):
                self._ask(seller)

    def hands(self, kind, night):
        """Return the dictionary of who holds how many rooms of the cell."""
        cell = (kind, night)
        pairs = [(("house",), self.house.stock[cell])]
        for seller in self.sellers:
            coming = self._under_way(seller.number, HOUSE)
            going = self._under_way(HOUSE, seller.number)
            pairs.extend(hands_on_seller(seller, cell))
            pairs.extend(hands_to_house(self.house, seller, coming, cell))
            pairs.extend(hands_to_seller(seller, going, cell))
        return {key: number for key, number in pairs if number != 0}

    def _bring_up(self):
        for desk in range(len(self.down)):
            self.down[desk] = False

    def _choose_letter(self, action, argument):
        """Deliver, remove or copy a letter of the net."""
        if not self.net:
            return
        at = argument % len(self.net)
        letter = self.net[at]
        if action == 5:
            self.net.append(letter)
            return
        del self.net[at]
        if action <= 3:
            self._deliver(letter)

    def _choose_desk(self, action, argument):
        """Let a desk tick, or bring it down or up."""
        place = argument % len(self.down)
        if action == 7:
            self.down[place] = not self.down[place]
        elif not self.down[place]:
            self._tick(place + HOUSE)

    def _ask(self, seller):
        """Ask the seller the next deed of its list, if there is one and it is up."""
        if self._is_down(seller) or self.asked[seller] >= len(self.deeds[seller]):
            return
        deed = self.deeds[seller][self.asked[seller]]
        self.asked[seller] += 1
        number = self.sellers[seller].ask(deed)
        self.history.append(("asked", seller, number, deed))
        self._pass_on(seller)

    def _move_night(self, argument):
        """Let the house give a seller a night, or want one of it."""
        rooms, nights, sellers = self.setup[:3]
        seller = argument % sellers
        kind = argument // sellers % len(rooms)
        night = argument // sellers // len(rooms) % nights
        if self._is_down(HOUSE):
            return
        if argument // sellers // len(rooms) // nights % 2 == 0:
            self.house.give(seller, kind, night)
        else:
            self.house.want(seller, kind, night)
        self._pass_on(HOUSE)

    def _tick_all(self):
        for desk in range(HOUSE, len(self.sellers)):
            self._tick(desk)

    def _tick(self, desk):
        """Put a letter for each body that is not acknowledged at the end of the net."""
        others = list(range(len(self.sellers))) if desk == HOUSE else [HOUSE]
        for other in others:
            for number, body in self._wire(desk, other).outbox:
                self.net.append((other, desk, "data", number, body))

    def _deliver(self, letter):
        """Let the desk to which the letter goes receive it; it is lost if that desk is down."""
        desk, other, form, number = letter[:4]
        if self._is_down(desk):
            return
        wire = self._wire(desk, other)
        if form == "ack":
            wire.acknowledged(number)
        elif number <= wire.expected:
            if wire.take(number):
                self._handle(desk, other, letter[4])
            self.net.append((other, desk, "ack", wire.expected - 1))

    def _handle(self, desk, other, body):
        if desk == HOUSE:
            self.house.handle(other, body)
        else:
            self.sellers[desk].handle(body)
        self._pass_on(desk)

    def _pass_on(self, desk):
        """Send what the desk has to send, and note what it has told."""
        if desk == HOUSE:
            for seller, body in self.house.bodies():
                self._send(seller, HOUSE, body)
        else:
            for number, granted in self.sellers[desk].answers():
                self.history.append(("told", desk, number, granted))
            for body in self.sellers[desk].bodies():
                self._send(HOUSE, desk, body)

    def _send(self, desk, sender, body):
        number = self._wire(sender, desk).send(body)
        self.net.append((desk, sender, "data", number, body))

    def _under_way(self, sender, desk):
        """Return the pairs (number, body) from the sender that the desk has not handled yet."""
        expected = self._wire(desk, sender).expected
        # What is no longer in the outbox has been acknowledged, so it has been handled.
        return [(number, body) for number, body in self._wire(sender, desk).outbox if number >= expected]

    def _is_acknowledged(self):
        return not any(wire.outbox for wire in self.house_wires + self.seller_wires)

    def _is_down(self, desk):
        return self.down[desk - HOUSE]

    def _wire(self, desk, other):
        """Return what the desk keeps for its letters with the other one."""
        return self.house_wires[other] if desk == HOUSE else self.seller_wires[desk]
