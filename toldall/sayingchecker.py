"""The checker of sayings."""

from toldall.errors import InvalidPaper
from toldall.sayingforms import depth_within, saying_fault
from toldall.usable import need_book


def lets_saying(book, thing):
    """The depth of a saying of the book; InvalidPaper for any other value."""
    need_book(book)
    fault = saying_fault(book, thing)
    if fault is not None:
        raise InvalidPaper(fault[0], fault[1])
    return depth_within(thing)
