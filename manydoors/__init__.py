"""Manydoors: an inn's rooms let by many doors."""
