"""Told tables of books: how they are built, what holds at their stands, and rows from one stand to another.

A stand is a tuple: on the lowest level of its state, its marks and its nexts, on each other one of its links and its
nexts. What stands ahead of the nexts is here called its key; the key of a next stand hangs on the key and the deed.
"""

from toldall.kinds import inner_sayings, is_fact
from toldall.marks import fact_holds, marks_behind
from toldall.parts import all_parties, names_of, nonempty_sets, share_party, step_behind
from toldall.sayingforms import depth_within, facts_within, parts_within


def told_levels(book, saying):
    """Told tables of the book for the saying, in each level without two stands of the same key."""
    facts = facts_within(saying)
    turns = link_turns(book[0])
    levels = [built_level(book, facts, turns, None)]
    for _ in range(depth_within(saying)):
        levels.append(built_level(book, facts, turns, levels[-1]))
    return tuple(levels)


def built_level(book, facts, turns, below):
    """The level above another one, or the lowest one above None."""
    order = [first_key(facts, turns, below)]
    places = {None: -1, order[0]: 0}
    stands = []
    while len(stands) < len(order):
        here = order[len(stands)]
        keys = keys_behind(book, facts, turns, below, here)
        for key in keys:
            if key not in places:
                places[key] = len(order)
                order.append(key)
        stands.append((*here, tuple([places[key] for key in keys])))
    return tuple(stands)


def link_turns(deeds):
    """For each deed a list: for each party set the place of that with the deed's parties, too, or -1 if it has none."""
    sets = nonempty_sets(all_parties(deeds))
    places = {each: k for k, each in enumerate(sets)}
    return [turns_by(sets, places, own) for name, own in deeds]


def turns_by(sets, places, own):
    """The list of one deed with these parties."""
    return [places[tuple(sorted(set(each) | set(own)))] if share_party(each, own) else -1 for each in sets]


def first_key(facts, turns, below):
    """The key of stand 0 of a level."""
    if below is None:
        return 0, (0,) * len(facts)
    return ((0,) * len(turns[0]),)


def keys_behind(book, facts, turns, below, key):
    """For each deed the key of the next stand of one with this key, None where the deed is not allowed."""
    if below is None:
        return lowest_keys(book, facts, key)
    return higher_keys(turns, below, key[0])


def lowest_keys(book, facts, key):
    """As keys_behind, on the lowest level."""
    state, marks = key
    keys = []
    for name, own in book[0]:
        end = step_behind(book[1], state, name)
        keys.append(None if end is None else (end, marks_behind(facts, marks, name)))
    return keys


def higher_keys(turns, below, links):
    """As keys_behind, on a level above another one."""
    keys = []
    for i, turn in enumerate(turns):
        if below[links[-1]][-1][i] == -1:
            keys.append(None)
        else:
            # Parties without the deed know as before; any others are told what the deed's parties know, too.
            ends = [link if at == -1 else below[links[at]][-1][i] for link, at in zip(links, turn)]
            keys.append((tuple(ends),))
    return keys


def truths_of(book, saying, levels):
    """For each stand of the last level whether the saying holds; the levels are told tables for its facts."""
    tables = Tables(book, facts_within(saying), levels)
    found = []
    # From the last part on: what is found of the sayings within a part then stands last, in turned order.
    for part, place, above in parts_within(saying)[::-1]:
        left = len(found) - len(inner_sayings(part))
        at = len(levels) - 1 - above.count("knows")
        found = [*found[:left], tables.truths_of_part(part, at, found[left:][::-1])]
    return found[0]


class Tables:
    """Told tables, with what is needed to tell what holds at their stands."""

    def __init__(self, book, facts, levels):
        self._deeds = book[0]
        self._facts = facts
        self._levels = levels
        self._sets = nonempty_sets(all_parties(book[0]))
        self._lowest = lowest_stands(levels)

    def truths_of_part(self, part, at, inner):
        """For each stand of a level whether a part holds, by what is known of the sayings directly within it."""
        word = part[0]
        if word == "not":
            return [not truth for truth in inner[0]]
        if word == "and":
            return [one and other for one, other in zip(inner[0], inner[1])]
        if word == "or":
            return [one or other for one, other in zip(inner[0], inner[1])]
        if word == "knows":
            return self._truths_of_knows(part[1], at, inner[0])
        return self._truths_of_leaf(part, at)

    def _truths_of_knows(self, parties, at, truths):
        """For each stand of a level whether the parties know what holds so on the level before."""
        sure = always_ahead(self._levels[at - 1], steps_without(self._deeds, parties), truths)
        k = self._sets.index(parties)
        return [sure[stand[0][k]] for stand in self._levels[at]]

    def _truths_of_leaf(self, part, at):
        """For each stand of a level whether a fact holds, or an "at"."""
        lowest = [self._levels[0][k] for k in self._lowest[at]]
        if is_fact(part):
            k = self._facts.index(part)
            return [fact_holds(part, stand[1][k]) for stand in lowest]
        return [stand[0] in part[1] for stand in lowest]


def lowest_stands(levels):
    """For each level, for each stand of it, the index of the stand of the lowest level to which its runs lead."""
    found = [list(range(len(levels[0])))]
    for level in levels[1:]:
        below = found[-1]
        found.append([below[stand[0][-1]] for stand in level])
    return found


def steps_without(deeds, parties):
    """The pairs of the index and the name of the deeds without these parties."""
    return [(i, deed[0]) for i, deed in enumerate(deeds) if not share_party(deed[1], parties)]


def steps_of(deeds):
    """The pairs of the index and the name of all deeds."""
    return list(enumerate(names_of(deeds)))


def always_ahead(level, steps, truths):
    """For each stand of a level whether what holds so holds at it and at every stand to which these deeds lead."""
    before = [[] for _ in level]
    for k, stand in enumerate(level):
        for i, name in steps:
            if stand[-1][i] != -1:
                before[stand[-1][i]].append(k)
    sure = list(truths)
    waiting = [k for k, truth in enumerate(truths) if not truth]
    while waiting:
        at = waiting.pop()
        for k in before[at]:
            if sure[k]:
                sure[k] = False
                waiting.append(k)
    return sure


def stand_behind(level, deeds, row):
    """The index of the stand to which a row that is allowed leads."""
    indexes = {deed[0]: i for i, deed in enumerate(deeds)}
    at = 0
    for name in row:
        at = level[at][-1][indexes[name]]
    return at


def row_to(level, steps, start, wanted):
    """The shortest row, of several the least, of these deeds from a stand to a wanted one, None if there is none."""
    order = [start]
    rows = {start: ()}
    k = 0
    while k < len(order):
        at = order[k]
        ahead = rows[at]
        if wanted[at]:
            return ahead
        for i, name in steps:
            end = level[at][-1][i]
            if end != -1 and end not in rows:
                rows[end] = (*ahead, name)
                order.append(end)
        k = k + 1
    return None
