"""Points 7 and 8, as far as one wire goes."""

import itertools
import random
import unittest

from manydoors.wire import Wire


class WireTest(unittest.TestCase):
    def assert_wire(self, wire, sent, outbox, expected):
        self.assertEqual((wire.sent, wire.outbox, wire.expected), (sent, outbox, expected))

    def test_a_new_wire(self):
        self.assert_wire(Wire(), 0, [], 0)

    def test_bodies_are_numbered_from_0_and_kept_in_the_outbox(self):
        wire = Wire()
        self.assertEqual(wire.send(("give", 0, 1)), 0)
        self.assertEqual(wire.send(("close", ((0, 0),))), 1)
        self.assertEqual(wire.send(("give", 0, 1)), 2)
        self.assert_wire(wire, 3, [(0, ("give", 0, 1)), (1, ("close", ((0, 0),))), (2, ("give", 0, 1))], 0)

    def test_an_ack_removes_all_up_to_its_number(self):
        wire = Wire()
        for body in "abcd":
            wire.send(body)
        self.assertIsNone(wire.acknowledged(1))
        self.assert_wire(wire, 4, [(2, "c"), (3, "d")], 0)
        wire.acknowledged(0)
        wire.acknowledged(1)
        self.assert_wire(wire, 4, [(2, "c"), (3, "d")], 0)
        wire.acknowledged(3)
        self.assert_wire(wire, 4, [], 0)
        self.assertEqual(wire.send("e"), 4)
        self.assert_wire(wire, 5, [(4, "e")], 0)

    def test_an_ack_before_anything_is_sent(self):
        wire = Wire()
        wire.acknowledged(-1)
        wire.acknowledged(0)
        self.assert_wire(wire, 0, [], 0)
        wire.send("a")
        wire.acknowledged(-1)
        self.assert_wire(wire, 1, [(0, "a")], 0)

    def test_only_the_expected_number_is_taken(self):
        wire = Wire()
        self.assertIs(wire.take(1), False)
        self.assert_wire(wire, 0, [], 0)
        self.assertIs(wire.take(0), True)
        self.assert_wire(wire, 0, [], 1)
        self.assertIs(wire.take(0), False)
        self.assertIs(wire.take(2), False)
        self.assert_wire(wire, 0, [], 1)
        self.assertIs(wire.take(1), True)
        self.assert_wire(wire, 0, [], 2)

    def test_the_directions_are_kept_apart(self):
        wire = Wire()
        wire.take(0)
        wire.take(1)
        self.assertEqual(wire.send("a"), 0)
        self.assert_wire(wire, 1, [(0, "a")], 2)
        wire.acknowledged(0)
        self.assert_wire(wire, 1, [], 2)

    def test_wires_are_kept_apart(self):
        one, other = Wire(), Wire()
        one.send("a")
        one.take(0)
        self.assert_wire(other, 0, [], 0)

    def test_bodies_stay_as_they_are(self):
        wire = Wire()
        body = ("ask", 0, (((0, 1), 2),))
        wire.send(body)
        self.assertIs(wire.outbox[0][1], body)


class Line:
    """Two wires and a net between them, in which letters are lost, doubled and crossed."""

    def __init__(self):
        self.wires = [Wire(), Wire()]
        self.sent = [[], []]
        self.handed = [[], []]
        self.net = []

    def send(self, end):
        body = ("body", end, len(self.sent[end]))
        number = self.wires[end].send(body)
        self.sent[end].append(body)
        self.net.append((1 - end, "data", number, body))

    def tick(self, end):
        self.net.extend((1 - end, "data", number, body) for number, body in self.wires[end].outbox)

    def deliver(self, index):
        to, word, number, *rest = self.net.pop(index)
        wire = self.wires[to]
        if word == "ack":
            wire.acknowledged(number)
            return
        if wire.take(number):
            self.handed[to].extend(rest)
        if number < wire.expected:
            self.net.append((1 - to, "ack", wire.expected - 1))

    def do(self, choice):
        """Send or tick at an end, or deliver, lose or double the first or the last letter."""
        end, what = choice % 2, choice // 2
        index = -end
        if what == 0:
            self.send(end)
        elif what == 1:
            self.tick(end)
        elif self.net and what == 2:
            self.deliver(index)
        elif self.net and what == 3:
            self.net.pop(index)
        elif self.net:
            self.net.append(self.net[index])

    def settle(self):
        """Lose nothing any more, until nothing is left in the outboxes."""
        for _ in range(300):
            for end in (0, 1):
                self.tick(end)
            while self.net:
                self.deliver(0)
            if not self.wires[0].outbox and not self.wires[1].outbox:
                return True
        return False


class TwoWiresTest(unittest.TestCase):
    def assert_in_order(self, line):
        """What has been handed over is a beginning of what was sent, and the outbox holds the rest."""
        for end in (0, 1):
            handed, sent = line.handed[1 - end], line.sent[end]
            self.assertEqual(handed, sent[:len(handed)])
            self.assertEqual(line.wires[1 - end].expected, len(handed))
            self.assertEqual(line.wires[end].sent, len(sent))
            outbox = line.wires[end].outbox
            self.assertEqual(outbox, list(enumerate(sent))[len(sent) - len(outbox):])
            self.assertGreaterEqual(len(outbox), len(sent) - len(handed))

    def assert_settles(self, line):
        self.assertTrue(line.settle())
        self.assert_in_order(line)
        self.assertEqual(line.handed, [line.sent[1], line.sent[0]])

    def test_nothing_is_lost(self):
        line = Line()
        for end in (0, 1, 0, 0):
            line.send(end)
        while line.net:
            line.deliver(0)
            self.assert_in_order(line)
        self.assertEqual(line.handed, [line.sent[1], line.sent[0]])
        self.assertEqual([wire.outbox for wire in line.wires], [[], []])

    def test_all_is_lost_at_first(self):
        line = Line()
        for end in (0, 0, 1):
            line.send(end)
        line.net.clear()
        self.assert_in_order(line)
        self.assert_settles(line)

    def test_the_last_letter_comes_first(self):
        line = Line()
        for _ in range(3):
            line.send(0)
        while line.net:
            line.deliver(-1)
            self.assert_in_order(line)
        self.assertEqual(line.handed[1], line.sent[0][:1])
        self.assert_settles(line)

    def test_all_short_lists_of_choices(self):
        for choices in itertools.product(range(10), repeat=5):
            line = Line()
            line.send(0)
            for choice in choices:
                line.do(choice)
            self.assert_in_order(line)
            self.assert_settles(line)

    def test_long_lists_of_choices(self):
        for seed in range(100):
            chance, line = random.Random(seed), Line()
            for _ in range(120):
                what = chance.randrange(7)
                if what == 0:
                    line.send(chance.randrange(2))
                elif what == 1 and len(line.net) < 200:
                    line.tick(chance.randrange(2))
                elif line.net and what in (2, 3, 4):
                    line.deliver(chance.randrange(len(line.net)))
                elif line.net and what == 5:
                    line.net.pop(chance.randrange(len(line.net)))
                elif line.net:
                    line.net.append(chance.choice(line.net))
                self.assert_in_order(line)
            self.assert_settles(line)


if __name__ == "__main__":
    unittest.main()
