"""The parts of sayings, the sets of parties, and the marks of runs."""

from toldall.marks import marks_of_row
from toldall.parts import all_parties, nonempty_sets
from toldall.sayingforms import depth_within, facts_within, parts_within
from toldall.usable import need_book, need_run, need_saying, need_saying_form


def parts_of_saying(saying):
    """The saying itself and all sayings within it, each ahead of those within it."""
    need_saying_form(saying)
    return tuple([part for part, place, above in parts_within(saying)])


def facts_of(saying):
    """The set of the facts of the saying."""
    need_saying_form(saying)
    return facts_within(saying)


def depth_of(saying):
    """The greatest number of "knows" that stand one in another."""
    need_saying_form(saying)
    return depth_within(saying)


def is_positive(saying):
    """Whether above each "knows" the number of "not" is even."""
    need_saying_form(saying)
    nots = [above.count("not") for part, place, above in parts_within(saying) if part[0] == "knows"]
    return all([many % 2 == 0 for many in nots])


def party_sets(book):
    """All nonempty sets of parties of the book, ascending by size, then as tuples."""
    need_book(book)
    return nonempty_sets(all_parties(book[0]))


def marks_after(book, saying, run):
    """The marks of the run for the saying."""
    need_book(book)
    need_saying(book, saying)
    need_run(book, run)
    return marks_of_row(facts_within(saying), run)
