"""What [49] and [56] say of coming papers and of listener papers, slowly, and how papers are changed."""

from itertools import combinations

from tests.cases import slow_end
from tests.told import names_in, slow_table_fault, slow_truth, walk


def put(thing, path, value):
    """The tuples with another value at the place, a value of None left out."""
    if len(path) == 1:
        return thing[:path[0]] + (() if value is None else (value,)) + thing[path[0] + 1:]
    return put(thing, path[:1], put(thing[path[0]], path[1:], value))


def paths_in(thing):
    """The places of all values within tuples."""
    found = []
    for k, each in enumerate(thing):
        found.append((k,))
        if isinstance(each, tuple):
            found += [(k, *path) for path in paths_in(each)]
    return found


def value_at(thing, path):
    for k in path:
        thing = thing[k]
    return thing


def slow_run_fault(book, row):
    """The first fault of a run, by [23], its shape aside; None without any."""
    for k, name in enumerate(row):
        if name not in names_in(book):
            return 'name', k
        if slow_end(book, row[:k + 1]) is None:
            return 'allowed', k
    return None


def own_deeds(book, party, row):
    """How many deeds of the row are deeds of the party."""
    return len([name for name in row if party in dict(book[0])[name]])


def slow_coming_fault(book, party, saying, thing):
    """The first fault of a coming paper, by the words of [49]; None without any."""
    if not has_coming_shape(thing):
        return 'shape', -1
    known, tables = ('knows', (party,), saying), tables_of(thing)
    fault = slow_table_fault(book, known, tables)
    if fault is not None:
        return fault
    for row in rows_of(thing):
        fault = slow_run_fault(book, row)
        if fault is not None:
            return fault
    knows = [slow_truth(book, known, tables, len(tables) - 1, k) for k in range(len(tables[-1]))]
    if thing[0] == 'always':
        return ('known', knows.index(False)) if False in knows else None
    if thing[0] == 'most':
        return slow_most_fault(book, party, thing, knows)
    word, run, ring, rest, tables = thing
    if walk(book, tables[-1], run) != walk(book, tables[-1], run + ring) or own_deeds(book, party, ring) == 0:
        return 'ring', -1
    return ('run', -1) if knows[walk(book, tables[-1], run + rest)] else None


def rows_of(paper):
    """The rows of a coming paper that are to be runs, in their order."""
    if paper[0] == 'most':
        return [paper[2]]
    return [] if paper[0] == 'always' else [paper[1], paper[1] + paper[2], paper[1] + paper[3]]


def has_coming_shape(thing):
    if type(thing) is not tuple or not thing or type(thing[0]) is not str:
        return False
    if len(thing) != {'always': 2, 'most': 5, 'ring': 5}.get(thing[0]):
        return False
    if thing[0] == 'most':
        word, number, run, tables, bounds = thing
        return (is_number(number) and type(run) is type(bounds) is tuple
                and all(is_number(bound) or type(bound) is str and bound == 'sure' for bound in bounds))
    return thing[0] == 'always' or all(type(row) is tuple for row in thing[1:4])


def is_number(thing):
    return type(thing) is int and thing >= 0


def tables_of(paper):
    return paper[{'always': 1, 'most': 3, 'ring': 4}[paper[0]]]


def slow_most_fault(book, party, paper, knows):
    word, number, run, tables, bounds = paper
    level = tables[-1]
    if len(bounds) != len(level) or bounds[0] == 'sure':
        return 'bound', -1
    for k, bound in enumerate(bounds):
        fits = knows[k] if bound == 'sure' else knows[k] or bound <= number
        for name, end in zip(names_in(book), level[k][-1]):
            if end != -1 and bound == 'sure':
                fits = fits and bounds[end] == 'sure'
            elif end != -1 and bounds[end] != 'sure':
                fits = fits and (bounds[end] > bound if own_deeds(book, party, (name,)) else bounds[end] >= bound)
        if not fits:
            return 'bound', k
    if knows[walk(book, level, run)] or own_deeds(book, party, run) != number:
        return 'run', -1
    return None


def listened(book, listeners):
    """The book with the listeners, by the definition of a deed."""
    return tuple((name, tuple(sorted({*own, *[party for deed, party in listeners if deed == name]})))
                 for name, own in book[0]), book[1]


def slow_pool_sets(pool):
    """All sets of listeners of the pool, by size, then ascending."""
    return [each for size in range(len(pool) + 1) for each in combinations(pool, size)]


def slow_listener_fault(book, saying, pool, thing):
    """The first fault of a listener paper, by the words of [56]; None without any."""
    if type(thing) is not tuple or len(thing) != 2 or any(type(papers) is not tuple for papers in thing):
        return 'shape', -1
    if any(type(paper) is not tuple or len(paper) != 2 for papers in thing for paper in papers):
        return 'shape', -1
    for i, papers in enumerate(thing):
        for k, (own, tables) in enumerate(papers):
            if own not in slow_pool_sets(pool) or k > 0 and own <= papers[k - 1][0]:
                return 'set', (i, k)
            for j in range(k):
                if set(papers[j][0]) <= set(own) or set(own) <= set(papers[j][0]):
                    return 'twin', (i, j, k)
            if not slow_shows(listened(book, own), saying, tables, i == 0):
                return 'tables', (i, k)
    for each in slow_pool_sets(pool):
        if not any(set(own) <= set(each) for own, tables in thing[0]):
            if not any(set(each) <= set(own) for own, tables in thing[1]):
                return 'left', each
    return None


def slow_shows(book, saying, tables, wanted):
    if slow_table_fault(book, saying, tables) is not None:
        return False
    return all(slow_truth(book, saying, tables, len(tables) - 1, k) for k in range(len(tables[-1]))) == wanted
