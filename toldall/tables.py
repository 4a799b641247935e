"""Told tables."""

from toldall.stands import told_levels
from toldall.usable import need_book, need_saying


def told_tables(book, saying):
    """Told tables of the book for the saying."""
    need_book(book)
    need_saying(book, saying)
    return told_levels(book, saying)
