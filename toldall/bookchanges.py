"""Books that are made of books by a change."""

from toldall.errors import NotUsable
from toldall.kinds import is_book, is_name
from toldall.parts import all_parties, names_of
from toldall.usable import is_party, need_book, need_deed, need_party


def with_listener(book, deed, party):
    """The book in which the party is one of the deed, too."""
    need_book(book)
    need_deed(book, deed)
    if not can_listen(book, deed, party):
        raise NotUsable("party", -1)
    return book_with(book, ((deed, party),))


def book_with(book, listeners):
    """The book with some listeners: pairs of a deed and a party that the deed does not have."""
    deeds = [(name, [*own, *[party for deed, party in listeners if deed == name]]) for name, own in book[0]]
    return tuple([(name, tuple(sorted(own))) for name, own in deeds]), book[1]


def can_listen(book, deed, party):
    """Whether any value is a party of the book that the deed does not have."""
    parties = dict(book[0])
    return is_party(book, party) and party not in parties[deed]


def without_deed(book, deed):
    """The book in which the deed is not there, nor allowed."""
    need_book(book)
    need_deed(book, deed)
    if len(book[0]) == 1:
        raise NotUsable("deed", -1)
    states = [[step for step in state if step[0] != deed] for state in book[1]]
    return tuple([each for each in book[0] if each[0] != deed]), tuple([tuple(state) for state in states])


def renamed_deed(book, deed, name):
    """The book in which the deed is called so."""
    need_book(book)
    need_deed(book, deed)
    if not is_free_name(names_of(book[0]), deed, name):
        raise NotUsable("name", -1)
    states = [renamed_pairs(state, deed, name) for state in book[1]]
    return renamed_pairs(book[0], deed, name), tuple(states)


def is_free_name(names, own, thing):
    """Whether any value is a name, and none of the names but its own."""
    return is_name(thing) and (thing == own or thing not in names)


def renamed_pairs(pairs, deed, name):
    """The pairs, ascending by their names, with another name in the pair of the deed."""
    return tuple(sorted([(name if word == deed else word, held) for word, held in pairs]))


def renamed_party(book, party, name):
    """The book in which the party is called so in all deeds."""
    need_book(book)
    need_party(book, party)
    if not is_free_name(all_parties(book[0]), party, name):
        raise NotUsable("name", -1)
    deeds = [(word, [name if each == party else each for each in own]) for word, own in book[0]]
    return tuple([(word, tuple(sorted(own))) for word, own in deeds]), book[1]


def beside_books(book, other):
    """The book of two books that share neither names of deeds nor parties."""
    need_book(book)
    if not is_book(other) or shares_names(book[0], other[0]):
        raise NotUsable("other", -1)
    deeds = tuple(sorted([*book[0], *other[0]]))
    return deeds, paired_states(book[1], other[1], False)


def shares_names(deeds, others):
    """Whether two tuples of deeds have a name of a deed, or a party, in common."""
    names, parties = names_of(others), all_parties(others)
    if any([name in names for name in names_of(deeds)]):
        return True
    return any([party in parties for party in all_parties(deeds)])


def both_books(book, other):
    """The book of what two books with equal deeds both allow."""
    need_book(book)
    if not is_book(other) or other[0] != book[0]:
        raise NotUsable("other", -1)
    return book[0], paired_states(book[1], other[1], True)


def paired_states(states, others, both):
    """The pairs of states to which rows lead from both states 0, by number."""
    order = [(0, 0)]
    place = {(0, 0): 0}
    rows = []
    while len(rows) < len(order):
        steps = steps_of_pair(states, others, order[len(rows)], both)
        for name, pair in steps:
            if pair not in place:
                place[pair] = len(order)
                order.append(pair)
        rows.append(tuple([(name, place[pair]) for name, pair in steps]))
    return tuple(rows)


def steps_of_pair(states, others, pair, both):
    """For each deed that is allowed in a pair of states, by name, the pair to which it leads."""
    here, there = states[pair[0]], others[pair[1]]
    if both:
        ends = dict(there)
        return [(name, (end, ends[name])) for name, end in here if name in ends]
    own = [(name, (end, pair[1])) for name, end in here]
    theirs = [(name, (pair[0], end)) for name, end in there]
    return sorted([*own, *theirs])
