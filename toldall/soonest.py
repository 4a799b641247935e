"""The fewest deeds until parties know a saying."""

from toldall.stands import row_to, stand_behind, steps_of, told_levels, truths_of
from toldall.usable import need_book, need_parties, need_run, need_saying


def soonest_row(book, parties, saying, run):
    """The shortest row behind a run until the parties together know the saying, None if there is none."""
    need_book(book)
    need_parties(book, parties)
    need_saying(book, saying)
    need_run(book, run)
    known = ("knows", parties, saying)
    levels = told_levels(book, known)
    start = stand_behind(levels[-1], book[0], run)
    return row_to(levels[-1], steps_of(book[0]), start, truths_of(book, known, levels))
