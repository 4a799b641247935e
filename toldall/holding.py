"""What holds at a run, who knows it, and runs that look alike at which it does not hold."""

from toldall.parts import all_parties
from toldall.pasts import past_row
from toldall.stands import row_to, stand_behind, steps_without, told_levels, truths_of
from toldall.usable import need_book, need_parties, need_run, need_saying


def holds_at(book, saying, run):
    """Whether the saying holds at the run."""
    need_saying_and_run(book, saying, run)
    levels = told_levels(book, saying)
    return truths_of(book, saying, levels)[stand_behind(levels[-1], book[0], run)]


def who_know(book, saying, run):
    """The set of the parties that know the saying at the run, each one alone."""
    need_saying_and_run(book, saying, run)
    levels = told_levels(book, saying)
    truths = truths_of(book, saying, levels)
    rows = [(party, row_against(book[0], (party,), levels[-1], truths, run)) for party in all_parties(book[0])]
    return tuple([party for party, row in rows if row is None])


def twin_of(book, parties, saying, run):
    """A run that looks alike to the parties, and at which the saying does not hold; None if they know it."""
    need_book(book)
    need_parties(book, parties)
    need_saying(book, saying)
    need_run(book, run)
    levels = told_levels(book, saying)
    row = row_against(book[0], parties, levels[-1], truths_of(book, saying, levels), run)
    return None if row is None else (*past_row(book[0], run, parties), *row)


def need_saying_and_run(book, saying, run):
    """Refuse what is no book, no saying of it, or no run of it."""
    need_book(book)
    need_saying(book, saying)
    need_run(book, run)


def row_against(deeds, parties, level, truths, run):
    """A row of deeds without the parties that leads from their past in the run to where it does not hold, or None."""
    start = stand_behind(level, deeds, past_row(deeds, run, parties))
    return row_to(level, steps_without(deeds, parties), start, [not truth for truth in truths])
