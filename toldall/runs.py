"""Runs of a book."""

from toldall.errors import InvalidPaper
from toldall.kinds import is_name
from toldall.parts import end_of_row, names_of, share_party, step_behind
from toldall.usable import is_run_of, need_book, need_length, need_run


def is_run(book, thing):
    """Whether any value is a run of the book."""
    need_book(book)
    return is_run_of(book, thing)


def lets_run(book, thing):
    """The state to which a run leads; InvalidPaper for any other value."""
    need_book(book)
    if not isinstance(thing, tuple):
        raise InvalidPaper("shape", -1)
    names = names_of(book[0])
    at = 0
    for k, name in enumerate(thing):
        if not is_name(name) or name not in names:
            raise InvalidPaper("name", k)
        at = step_behind(book[1], at, name)
        if at is None:
            raise InvalidPaper("allowed", k)
    return at


def state_after(book, run):
    """The state to which a run leads."""
    need_book(book)
    need_run(book, run)
    return end_of_row(book[1], run)


def runs_of(book, length):
    """All runs with so many deeds, ascending."""
    need_book(book)
    need_length(length)
    states = book[1]
    yield from rows_with(states, length)


def kinds_of_runs(book, length):
    """Of the runs with so many deeds those that are the least of the rows alike to them, ascending."""
    need_book(book)
    need_length(length)
    states = states_of_least_rows(book)
    yield from rows_with(states, length)


def rows_with(states, length):
    """The rows with so many deeds that are allowed from state 0, ascending."""
    most = min(length, len(states))
    bounds = run_bounds(states, most)
    waiting = [((), 0)]
    while waiting:
        row, at = waiting.pop()
        left = length - len(row)
        # Rows that cannot become long enough are left at once.
        if bounds[at] < min(left, most):
            continue
        if left == 0:
            yield row
        else:
            waiting.extend([((*row, name), end) for name, end in reversed(list(states[at]))])


def run_bounds(states, most):
    """For each state how many deeds the longest row from there has, if these are fewer than most, otherwise most.

    A row with as many deeds as there are states goes through one of them twice, so rows of any length go on there.
    """
    bounds = [0] * len(states)
    for _ in range(most):
        bounds = [max([bounds[end] + 1 for name, end in state], default=0) for state in states]
    return bounds


def states_of_least_rows(book):
    """States from which just the runs are allowed that are the least of the rows alike to them.

    A row is no least one if a deed could go ahead of a greater one, over deeds apart from it. So each of the new
    states is a state of the book with the names of the deeds that could do so: they are left out in it.
    """
    parties = dict(book[0])
    order = [(0, ())]
    place = {(0, ()): 0}
    rows = []
    while len(rows) < len(order):
        at, late = order[len(rows)]
        steps = [(name, (end, late_behind(parties, late, name))) for name, end in book[1][at] if name not in late]
        for name, pair in steps:
            if pair not in place:
                place[pair] = len(order)
                order.append(pair)
        rows.append(tuple([(name, place[pair]) for name, pair in steps]))
    return tuple(rows)


def late_behind(parties, late, name):
    """The deeds that come too late behind this one, where some were too late before it."""
    others = [other for other in parties if not share_party(parties[other], parties[name])]
    return tuple([other for other in others if other in late or other < name])
