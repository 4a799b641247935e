"""Whether two books are alike to some parties."""

from toldall.errors import NotUsable
from toldall.kinds import is_book
from toldall.merging import paired_steps
from toldall.parts import share_party
from toldall.usable import need_book, need_parties


def are_alike_to(book, other, parties):
    """Whether the same rows are pasts of the parties by both books."""
    need_books_and_parties(book, other, parties)
    return parting_past_by(book, other, parties) is None


def parting_past(book, other, parties):
    """The shortest row, of several the least, that is a past of the parties by just one of the books, or None."""
    need_books_and_parties(book, other, parties)
    return parting_past_by(book, other, parties)


def need_books_and_parties(book, other, parties):
    """Refuse what is no book, no book with the same deeds, or no nonempty set of their parties."""
    need_book(book)
    if not is_book(other) or other[0] != book[0]:
        raise NotUsable("other", -1)
    need_parties(book, parties)


def parting_past_by(book, other, parties):
    """As parting_past, for what is known to fit."""
    own = dict(book[0])
    # A row is known here by the states to which it leads, and by what has to follow until it is a past.
    start = ((0, 0), ())
    order = [start]
    rows = {start: ()}
    k = 0
    while k < len(order):
        pair, left = order[k]
        ahead = rows[order[k]]
        if None in pair and left == ():
            return ahead
        for name, ends in ends_of_pair(book[1], other[1], pair):
            there = (ends, left_behind(left, parties, own[name]))
            if there not in rows:
                rows[there] = (*ahead, name)
                order.append(there)
        k = k + 1
    return None


def ends_of_pair(states, others, pair):
    """For each deed that is allowed in a state of a pair, where it leads from both, None where it is not allowed."""
    here, there = pair
    if here is None:
        return [(name, (None, end)) for name, end in others[there]]
    if there is None:
        return [(name, (end, None)) for name, end in states[here]]
    return paired_steps(states, others, pair)


def left_behind(left, parties, own):
    """What is left for a row to be a past of the parties, behind a deed more with these parties of its own.

    For each deed of the row from which no chain leads to a deed of the parties yet, these are all parties of the deeds
    to which chains lead from it. A set that includes another one waits for nothing more, so it is not kept.
    """
    told = [tuple(sorted(set(each) | set(own))) if share_party(each, own) else each for each in (*left, own)]
    waiting = sorted({each for each in told if not share_party(each, parties)})
    return tuple([each for each in waiting if not any([includes_other(each, other) for other in waiting])])


def includes_other(parties, others):
    """Whether the parties include all of the others, and some more."""
    return parties != others and all([party in parties for party in others])
