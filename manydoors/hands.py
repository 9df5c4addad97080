"""The hands: who holds how many rooms of a cell, on the desks and in the letters between them."""

from manydoors.deeds import lack_of
from manydoors.inn import needs_of
from manydoors.wire import HOUSE


def hands_on_seller(seller, cell):
    """Return the pairs (key, number) of the seller's free nights and of the needs of its vouchers."""
    pairs = [(("seller", seller.number), seller.free[cell])]
    for number, party in seller.vouchers.items():
        pairs.append((("party", seller.number, number), needs_of(party).get(cell, 0)))
    return pairs


def hands_to_house(house, seller, bodies, cell):
    """Return the pairs (key, number) of the bodies that are under way from the seller."""
    cells = [] if house.round is None else [closed for closed, _ in house.round[2]]
    return [(("letter", seller.number, HOUSE, number), nights_in(body, cells, cell)) for number, body in bodies]


def hands_to_seller(seller, bodies, cell):
    """Return the pairs (key, number) of the bodies that are under way to the seller, and of grants in them."""
    cells = [] if seller.closing is None else list(seller.closing)
    pairs = []
    for number, body in bodies:
        pairs.append((("letter", HOUSE, seller.number, number), nights_in(body, cells, cell)))
        if body[0] == "open" and body[2] is not None and body[2][1]:
            # The lack of a granted deed stands in no count: it comes with the answer itself.
            granted = body[2][0]
            lack = lack_of(seller.asked[granted], seller.vouchers)
            pairs.append((("granted", seller.number, granted), lack.get(cell, 0)))
    return pairs


def nights_in(body, cells, cell):
    """Return how many nights of the cell are in a body, where the counts of a round are of these cells."""
    if body[0] in ("give", "back"):
        return 1 if (body[1], body[2]) == cell else 0
    if body[0] in ("closed", "open") and cell in cells:
        return body[1][cells.index(cell)]
    return 0
