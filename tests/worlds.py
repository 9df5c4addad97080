"""Worlds, the choices of their steps by name, and random ones."""

import random

from manydoors.world import World
from tests.samples import stays_of


def choice(action, argument=0):
    """Return the choice of this kind with this argument."""
    return action + 10 * argument


def move(setup, seller, kind, night, times=0):
    """Return the choice with which the house gives a night, or wants it if times is odd."""
    rooms, nights, sellers = setup[:3]
    return choice(9, seller + sellers * (kind + len(rooms) * (night + nights * times)))


def ask(seller):
    return choice(8, seller)


def tick(desk):
    return choice(6, desk + 1)


def turn(desk):
    """Return the choice with which a desk goes down or comes up."""
    return choice(7, desk + 1)


def deliver(at):
    return choice(0, at)


def deliver_all(world):
    """Deliver the first letter until there is none."""
    for _ in range(10000):
        if not world.net:
            return
        world.choose(deliver(0))
    raise AssertionError("the letters come to no end")


def state_of(world):
    """Return all that can be seen of a world, as values that do not change with it."""
    house = world.house
    return repr(
        [
            (house.stock, house.books, house.queue, house.round),
            [
                (seller.free, seller.vouchers, seller.book, seller.closing, seller.asked, seller.waiting)
                for seller in world.sellers
            ],
            (world.setup, world.net, world.history, world.down, world.deeds, world.asked),
            [(wire.sent, wire.outbox, wire.expected) for wire in world.house_wires + world.seller_wires],
        ]
    )


def random_setup(source):
    """Return a setup whose edges come up often."""
    kinds = source.choice((1, 1, 2, 3))
    nights = source.choice((1, 2, 3, 4, 12))
    rooms = tuple(source.choice((0, 1, 1, 2, 2, 3, 4)) for _ in range(kinds))
    prices = tuple(tuple(source.choice((0, 7, 99, 10**6)) for _ in range(nights)) for _ in range(kinds))
    return (rooms, nights, source.randint(1, 4), prices, source.choice((0, 15, 100)))


def random_party(source, kinds, nights):
    """Return a party, most often of one stay."""
    stays = stays_of(kinds, nights)
    return tuple(sorted(source.choice(stays) for _ in range(source.choice((1, 1, 1, 2, 3, 4)))))


def random_deeds(source, setup, most):
    """Return one list of up to so many deeds for each seller; many of them name the number 0 or the last one."""
    kinds, nights = len(setup[0]), setup[1]
    lists = []
    for _ in range(setup[2]):
        deeds = []
        for number in range(source.randint(0, most)):
            form = source.choice(("wish", "wish", "cancel", "change")) if number else "wish"
            named = () if form == "wish" else (source.choice((0, number - 1, source.randrange(number))),)
            party = () if form == "cancel" else (random_party(source, kinds, nights),)
            deeds.append((form,) + named + party)
        lists.append(deeds)
    return lists


def random_world(source, most=12):
    setup = random_setup(source)
    return World(setup, random_deeds(source, setup, most))


def random_choice(source):
    """Return a choice in which letters arrive more often than they get lost."""
    return choice(source.choice((0, 1, 2, 3, 0, 1, 4, 5, 6, 7, 8, 8, 9, 9)), source.randrange(10**5))
