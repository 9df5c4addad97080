"""Deeds: what a deed names and asks for, and what it needs beyond a voucher."""

from manydoors.inn import needs_of


def named_by(deed):
    """Return the number that the deed names; a wish names none."""
    return None if deed[0] == "wish" else deed[1]


def party_of(deed):
    """Return the party that the deed asks for; a cancel asks for no stays."""
    return () if deed[0] == "cancel" else deed[-1]


def old_party_of(deed, vouchers):
    """Return the party of the voucher that the deed names; no stays if there is none."""
    return vouchers.get(named_by(deed), ())


def more_needs(party, other):
    """Return the dictionary from the cells to what the party needs more there than the other one."""
    needs = needs_of(party)
    others = needs_of(other)
    return {cell: needs[cell] - others.get(cell, 0) for cell in needs if needs[cell] > others.get(cell, 0)}


def lack_of(deed, vouchers):
    """Return the dictionary of what the deed needs beyond the voucher that it names."""
    return more_needs(party_of(deed), old_party_of(deed, vouchers))
