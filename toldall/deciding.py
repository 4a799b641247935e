"""What holds at all runs of a book, and the shortest runs at which a saying fails, or holds."""

from toldall.stands import row_to, steps_of, told_levels, truths_of
from toldall.usable import need_book, need_saying


def holds_always(book, saying):
    """Whether the saying holds at all runs of the book."""
    need_book(book)
    need_saying(book, saying)
    return all(truths_of(book, saying, told_levels(book, saying)))


def failing_run(book, saying):
    """The shortest run at which the saying does not hold, None if there is none."""
    need_book(book)
    need_saying(book, saying)
    return shortest_run(book, saying, False)


def holding_run(book, saying):
    """The shortest run at which the saying holds, None if there is none."""
    need_book(book)
    need_saying(book, saying)
    return shortest_run(book, saying, True)


def shortest_run(book, saying, wanted):
    """The shortest run, of several the least, at which it is so whether the saying holds; None if there is none."""
    levels = told_levels(book, saying)
    truths = truths_of(book, saying, levels)
    return row_to(levels[-1], steps_of(book[0]), 0, [truth == wanted for truth in truths])
