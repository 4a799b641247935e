"""The checker of told tables."""

from toldall.errors import InvalidPaper
from toldall.kinds import is_integer, is_number, is_pair
from toldall.sayingforms import depth_within, facts_within
from toldall.stands import first_key, keys_behind, link_turns, truths_of
from toldall.usable import need_book, need_saying


def lets_tables(book, saying, thing):
    """At how many stands of the last level of told tables the saying does not hold; InvalidPaper for others."""
    need_book(book)
    need_saying(book, saying)
    facts = facts_within(saying)
    turns = link_turns(book[0])
    if not has_levels(thing, depth_within(saying) + 1, len(facts), turns):
        raise InvalidPaper("shape", -1)
    below = None
    for at, level in enumerate(thing):
        refuse_stands(level, at, len(book[1]) if below is None else len(below))
        if level[0][:-1] != first_key(facts, turns, below):
            raise InvalidPaper("first", at)
        for k, stand in enumerate(level):
            if not leads_right(level, stand[-1], keys_behind(book, facts, turns, below, stand[:-1])):
                raise InvalidPaper("next", (at, k))
        below = level
    return len([truth for truth in truths_of(book, saying, thing) if not truth])


def has_levels(thing, many, marks, turns):
    """Whether any value is a tuple of so many levels, by the kinds and the numbers of what stands in them."""
    if not isinstance(thing, tuple) or len(thing) != many:
        return False
    if not all([isinstance(level, tuple) and len(level) > 0 for level in thing]):
        return False
    if not all([is_lowest_stand(stand, marks, len(turns)) for stand in thing[0]]):
        return False
    return all([is_higher_stand(stand, len(turns[0]), len(turns)) for level in thing[1:] for stand in level])


def is_lowest_stand(thing, marks, deeds):
    """Whether any value is a triple of a number, numbers for so many marks, and the nexts for so many deeds."""
    if not isinstance(thing, tuple) or len(thing) != 3:
        return False
    return is_number(thing[0]) and are_numbers(thing[1], marks) and are_nexts(thing[2], deeds)


def is_higher_stand(thing, links, deeds):
    """Whether any value is a pair of numbers for so many links, and the nexts for so many deeds."""
    return is_pair(thing) and are_numbers(thing[0], links) and are_nexts(thing[1], deeds)


def are_numbers(thing, many):
    """Whether any value is a tuple of so many numbers."""
    return isinstance(thing, tuple) and len(thing) == many and all([is_number(each) for each in thing])


def are_nexts(thing, many):
    """Whether any value is a tuple of so many integers from -1 on."""
    if not isinstance(thing, tuple) or len(thing) != many:
        return False
    return all([is_integer(each) and each >= -1 for each in thing])


def refuse_stands(level, at, bound):
    """Refuse the first stand with an index that is none, or that is no next of an earlier one.

    Its state, or its links, are to be below the bound.
    """
    met = {0: True}
    for k, stand in enumerate(level):
        indexes = [stand[0]] if at == 0 else stand[0]
        if k not in met or max(indexes) >= bound or max(stand[-1]) >= len(level):
            raise InvalidPaper("stand", (at, k))
        for end in stand[-1]:
            met[end] = True


def leads_right(level, nexts, keys):
    """Whether the nexts of a stand lead to stands with the keys that are due, and nowhere where there is none."""
    for end, key in zip(nexts, keys):
        if key is None and end != -1:
            return False
        if key is not None and (end == -1 or level[end][:-1] != key):
            return False
    return True
