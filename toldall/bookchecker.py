"""The checker of books."""

from toldall.errors import InvalidPaper
from toldall.kinds import book_fault


def lets_book(thing):
    """How many states a book has; InvalidPaper for any other value."""
    fault = book_fault(thing)
    if fault is not None:
        raise InvalidPaper(fault[0], fault[1])
    return len(thing[1])
