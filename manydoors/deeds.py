"""Deeds: what a deed names and asks for, what it needs beyond a voucher, and what the plain book makes of it."""

from manydoors.inn import is_deed, needs_of


def named_by(deed):
    """Return the number that the deed names; a wish names none."""
    return None if deed[0] == "wish" else deed[1]


def party_of(deed):
    """Return the party that the deed asks for; a cancel asks for no stays."""
    return () if deed[0] == "cancel" else deed[-1]


def old_party_of(deed, vouchers):
    """Return the party of the voucher that the deed names; no stays if there is none."""
    return vouchers.get(named_by(deed), ())


def more_needs(party, other):
    """Return the dictionary from the cells to what the party needs more there than the other one."""
    needs = needs_of(party)
    others = needs_of(other)
    return {cell: needs[cell] - others.get(cell, 0) for cell in needs if needs[cell] > others.get(cell, 0)}


def lack_of(deed, vouchers):
    """Return the dictionary of what the deed needs beyond the voucher that it names."""
    return more_needs(party_of(deed), old_party_of(deed, vouchers))


def is_numbered_deed(kinds, nights, number, deed):
    """Tell whether deed is one of an inn with so many kinds and nights, and names no number but a lesser one."""
    if not is_deed(kinds, nights, deed):
        return False
    named = named_by(deed)
    return named is None or named < number


def do_in_book(book, name, deed):
    """Do the deed of this name (seller, number) in the plain book; tell whether it is granted."""
    if deed[0] == "wish":
        return book.wish(name, deed[1])
    kept = (name[0], deed[1])
    if deed[0] == "cancel":
        return book.cancel(kept)
    return book.change(kept, deed[2])
