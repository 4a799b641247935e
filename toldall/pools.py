"""Listeners of a book, and pools of them."""

from toldall.errors import NotUsable
from toldall.kinds import is_ascending
from toldall.parts import all_parties, nonempty_sets
from toldall.sayingparts import is_positive
from toldall.usable import need_book, need_saying


def all_listeners(deeds):
    """The set of the pairs of a deed and a party that it does not have."""
    return tuple([(name, party) for name, own in deeds for party in all_parties(deeds) if party not in own])


def need_pool(book, saying, pool):
    """Refuse what is no book, no positive saying of it, or no set of listeners of it."""
    need_book(book)
    need_saying(book, saying)
    if not is_positive(saying):
        raise NotUsable("saying", -1)
    if not is_set_within(all_listeners(book[0]), pool):
        raise NotUsable("pool", -1)


def is_set_within(listeners, thing):
    """Whether any value is a set of some of the listeners."""
    return isinstance(thing, tuple) and all([each in listeners for each in thing]) and is_ascending(thing)


def sets_of_pool(pool):
    """All sets of listeners of the pool, ascending by size, then as tuples."""
    return ((), *nonempty_sets(pool))


def lies_in(listeners, others):
    """Whether all of the listeners are among the others."""
    return all([each in others for each in listeners])
