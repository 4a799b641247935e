"""Told tables that are made in another way, and what [7], [8] and [42] say of them, slowly."""

from tests.cases import slow_end
from tests.sayings import slow_depth, slow_facts, slow_mark, slow_past_row, slow_sets


def names_in(book):
    return [deed[0] for deed in book[0]]


def walk(book, level, row, at=0):
    """The stand to which a row leads, or -1."""
    for name in row:
        if at != -1:
            at = level[at][-1][names_in(book).index(name)]
    return at


def key_of_row(book, saying, below, row):
    """What [7] wants ahead of the nexts at the stand of a row."""
    if below is None:
        return slow_end(book, row), tuple(slow_mark(fact, row) for fact in slow_facts(saying))
    return (tuple(walk(book, below, slow_past_row(book, row, parties)) for parties in slow_sets(book)),)


def others_tables(book, saying, note, depth=None):
    """Told tables in which rows that are noted differently lead to different stands, also where these are equal.

    A note is what note(note, name) makes of that before and of a name, at first None.
    """
    levels, below = [], None
    for _ in range((slow_depth(saying) if depth is None else depth) + 1):
        start = (key_of_row(book, saying, below, ()), None)
        order, rows, stands = [start], {start: ()}, []
        while len(stands) < len(order):
            here, nexts = order[len(stands)], []
            for name in names_in(book):
                row = (*rows[here], name)
                if slow_end(book, row) is None:
                    nexts.append(-1)
                    continue
                there = (key_of_row(book, saying, below, row), note(here[1], name))
                if there not in rows:
                    rows[there] = row
                    order.append(there)
                nexts.append(order.index(there))
            stands.append((*here[0], tuple(nexts)))
        below = tuple(stands)
        levels.append(below)
    return tuple(levels)


def check_tables(case, book, saying, tables):
    """Look told tables through, stand by stand, by the words of [7]."""
    case.assertIs(tables.__class__, tuple)
    case.same(len(tables), slow_depth(saying) + 1)
    below = None
    for level in tables:
        case.assertTrue(level.__class__ is tuple and level)
        rows, met = {0: ()}, {0}
        for k, stand in enumerate(level):
            case.assertIn(k, met)
            row = rows[k]
            case.same(stand[:-1], key_of_row(book, saying, below, row))
            case.assertTrue(stand.__class__ is stand[-1].__class__ is tuple and len(stand[-1]) == len(book[0]))
            for name, end in zip(names_in(book), stand[-1]):
                if slow_end(book, (*row, name)) is None:
                    case.same(end, -1)
                else:
                    case.assertTrue(end.__class__ is int and 0 <= end < len(level))
                    case.same(level[end][:-1], key_of_row(book, saying, below, (*row, name)))
                    met.add(end)
                    rows.setdefault(end, (*row, name))
        below = level


def slow_truth(book, saying, tables, at, k, facts=None):
    """Whether a saying holds at stand k of level at, by [8]; the facts are those of the tables' saying."""
    facts = slow_facts(saying) if facts is None else facts
    word, stand = saying[0], tables[at][k]
    if word == 'not':
        return not slow_truth(book, saying[1], tables, at, k, facts)
    if word in ('and', 'or'):
        both = [slow_truth(book, inner, tables, at, k, facts) for inner in saying[1:]]
        return all(both) if word == 'and' else any(both)
    if word == 'knows':
        met = [stand[0][slow_sets(book).index(saying[1])]]
        for one in met:
            for (name, own), end in zip(book[0], tables[at - 1][one][-1]):
                if not set(own) & set(saying[1]) and end != -1 and end not in met:
                    met.append(end)
        return all([slow_truth(book, saying[2], tables, at - 1, one, facts) for one in met])
    if at > 0:
        return slow_truth(book, saying, tables, at - 1, stand[0][-1], facts)
    if word == 'at':
        return stand[0] in saying[1]
    mark = stand[1][facts.index(saying)]
    return mark == {'done': saying[2], 'modulo': saying[-1], 'latest': 1}[word]


def slow_table_fault(book, saying, thing):
    """The first fault of told tables, by the words of [42]; None without any."""
    if not has_table_shape(book, saying, thing):
        return 'shape', -1
    for at, level in enumerate(thing):
        for k, stand in enumerate(level):
            if at == 0:
                wrong = stand[0] not in range(len(book[1]))
            else:
                wrong = any(link not in range(len(thing[at - 1])) for link in stand[0])
            wrong = wrong or any(end not in range(-1, len(level)) for end in stand[-1])
            if wrong or k != 0 and not any(k in level[j][-1] for j in range(k)):
                return 'stand', (at, k)
        if at == 0 and (level[0][0] != 0 or any(level[0][1])) or at > 0 and any(level[0][0]):
            return 'first', at
        for k, stand in enumerate(level):
            for i in range(len(book[0])):
                if wrong_next(book, saying, thing, at, stand, i):
                    return 'next', (at, k)
    return None


def has_table_shape(book, saying, thing):
    def numbers(value, many, least=0):
        return type(value) is tuple and len(value) == many and all(type(n) is int and n >= least for n in value)

    if type(thing) is not tuple or len(thing) != slow_depth(saying) + 1:
        return False
    if any(type(level) is not tuple or level == () for level in thing):
        return False
    for at, level in enumerate(thing):
        for stand in level:
            if type(stand) is not tuple or len(stand) != (3 if at == 0 else 2):
                return False
            if not numbers(stand[-1], len(book[0]), -1):
                return False
            if at == 0 and not (numbers(stand[:1], 1) and numbers(stand[1], len(slow_facts(saying)))):
                return False
            if at > 0 and not numbers(stand[0], len(slow_sets(book))):
                return False
    return True


def wrong_next(book, saying, thing, at, stand, i):
    """Whether the next of a stand by deed i is not the one that is due."""
    name, own = book[0][i]
    end = stand[-1][i]
    if at == 0:
        state = dict(book[1][stand[0]]).get(name)
        if state is None or end == -1:
            return (state is None) != (end == -1)
        marks = tuple(next_mark(fact, mark, name) for fact, mark in zip(slow_facts(saying), stand[1]))
        return thing[0][end][:2] != (state, marks)
    below, sets = thing[at - 1], slow_sets(book)
    if end == -1 or below[stand[0][-1]][-1][i] == -1:
        return (end == -1) != (below[stand[0][-1]][-1][i] == -1)
    links = []
    for parties, link in zip(sets, stand[0]):
        if set(parties) & set(own):
            together = tuple(sorted({*parties, *own}))
            link = below[stand[0][sets.index(together)]][-1][i]
        links.append(link)
    return thing[at][end][0] != tuple(links)


def next_mark(fact, mark, name):
    if fact[0] == 'latest':
        return {fact[1]: 1, fact[2]: 0}.get(name, mark)
    if name != fact[1]:
        return mark
    return min(mark + 1, fact[2]) if fact[0] == 'done' else (mark + 1) % fact[2]
