"""Which rows are beginnings of others, what rows have in common, and what they are joined to."""

from toldall.exchanges import first_indexes, least_alike, left_without, own_deeds
from toldall.parts import all_parties, share_party
from toldall.usable import need_book, need_row


def is_beginning(book, row, other):
    """Whether some deeds behind row make it alike to other."""
    need_rows(book, row, other)
    parties = dict(book[0])
    return all([begins_for(parties, row, other, party) for party in all_parties(book[0])])


def common_row(book, row, other):
    """The least of the longest rows that are beginnings of both."""
    need_rows(book, row, other)
    parties = dict(book[0])
    return least_alike(parties, parted_rows(parties, row, other)[0])


def joined_row(book, row, other):
    """The least of the shortest rows of which both are beginnings, None if there is none."""
    need_rows(book, row, other)
    parties = dict(book[0])
    common, left, rest = parted_rows(parties, row, other)
    if share_party(parties_within(parties, left), parties_within(parties, rest)):
        return None
    return least_alike(parties, (*common, *left, *rest))


def need_rows(book, row, other):
    """Refuse what is no book, or no row of it."""
    need_book(book)
    need_row(book, row)
    need_row(book, other, "other")


def begins_for(parties, row, other, party):
    """Whether the party's own deeds in the other row begin with those in the row."""
    own = own_deeds(parties, row, party)
    return own_deeds(parties, other, party)[:len(own)] == own


def parties_within(parties, row):
    """The parties of the deeds of a row."""
    return [party for name in row for party in parties[name]]


def parted_rows(parties, row, other):
    """A longest row that is a beginning of both, and what is left of each of them behind it."""
    common = []
    left, rest = row, other
    pair = shared_first(parties, left, rest)
    while pair is not None:
        common.append(left[pair[0]])
        left, rest = left_without(left, pair[0]), left_without(rest, pair[1])
        pair = shared_first(parties, left, rest)
    return tuple(common), left, rest


def shared_first(parties, row, other):
    """The indexes, in both rows, of a deed that can come first in both, None if there is none."""
    places = {other[k]: k for k in first_indexes(parties, other)}
    for k in first_indexes(parties, row):
        if row[k] in places:
            return k, places[row[k]]
    return None
