"""Rows that become each other by exchanging neighbours that are apart, and their chains."""

from toldall.parts import all_parties
from toldall.usable import need_book, need_party, need_row


def own_row(book, row, party):
    """The deeds of the row in which the party has a part, in their order."""
    need_book(book)
    need_row(book, row)
    need_party(book, party)
    return own_deeds(dict(book[0]), row, party)


def are_alike(book, row, other):
    """Whether two rows are alike."""
    need_book(book)
    need_row(book, row)
    need_row(book, other, "other")
    return rows_are_alike(book[0], row, other)


def least_row(book, row):
    """The least of the rows alike to the row."""
    need_book(book)
    need_row(book, row)
    return least_alike(dict(book[0]), row)


def alike_rows(book, row):
    """All rows alike to the row, ascending."""
    need_book(book)
    need_row(book, row)
    parties = dict(book[0])
    waiting = [((), row)]
    while waiting:
        done, left = waiting.pop()
        if left:
            firsts = sorted([(left[k], k) for k in first_indexes(parties, left)], reverse=True)
            waiting.extend([((*done, name), left_without(left, k)) for name, k in firsts])
        else:
            yield done


def how_many_alike(book, row):
    """How many rows are alike to the row."""
    need_book(book)
    need_row(book, row)
    parties = dict(book[0])
    # For each row that can be left when some deeds are done: in how many orders they can have been done.
    ways = {row: 1}
    for _ in range(len(row)):
        later = {}
        for left, many in ways.items():
            for k in first_indexes(parties, left):
                shorter = left_without(left, k)
                later[shorter] = later.get(shorter, 0) + many
        ways = later
    return ways[()]


def rounds_of(book, row):
    """The rounds of the row: the sets of its deeds to which equally long chains lead."""
    need_book(book)
    need_row(book, row)
    lengths = [length for length, before in chains_to(dict(book[0]), row)]
    rounds = []
    for k in range(max(lengths, default=0)):
        rounds.append(tuple(sorted([name for name, length in zip(row, lengths) if length == k + 1])))
    return tuple(rounds)


def longest_chain(book, row):
    """The indexes of the deeds of a chain that is as long as one can be."""
    need_book(book)
    need_row(book, row)
    chains = chains_to(dict(book[0]), row)
    indexes = []
    at = max([(chains[k][0], k) for k in range(len(row))], default=(0, -1))[1]
    while at != -1:
        indexes.append(at)
        at = chains[at][1]
    return tuple(indexes[::-1])


def own_deeds(parties, row, party):
    """The deeds of the row in which the party has a part, by the parties of each deed."""
    return tuple([name for name in row if party in parties[name]])


def rows_are_alike(deeds, row, other):
    """Whether two rows of these deeds are alike: each party's own deeds are the same in both."""
    parties = dict(deeds)
    return all([own_deeds(parties, row, each) == own_deeds(parties, other, each) for each in all_parties(deeds)])


def least_alike(parties, row):
    """The least of the rows alike to the row, by the parties of each deed."""
    done = []
    left = row
    while left:
        name, k = min([(left[k], k) for k in first_indexes(parties, left)])
        done.append(name)
        left = left_without(left, k)
    return tuple(done)


def first_indexes(parties, row):
    """The indexes of the deeds of the row that can come first in a row alike to it."""
    met = {}
    indexes = []
    for k, name in enumerate(row):
        if not any([party in met for party in parties[name]]):
            indexes.append(k)
        for party in parties[name]:
            met[party] = True
    return indexes


def left_without(row, k):
    """The row without its deed k."""
    return (*row[:k], *row[k + 1:])


def chains_to(parties, row):
    """For each deed of the row the length of a longest chain to it, and the index of the deed before it, or -1."""
    latest = {}
    chains = []
    for k, name in enumerate(row):
        behind = [latest[party] for party in parties[name] if party in latest]
        length, before = max([(chains[at][0], at) for at in behind], default=(0, -1))
        chains.append((length + 1, before))
        for party in parties[name]:
            latest[party] = k
    return chains
