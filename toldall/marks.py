"""The marks of runs: what the facts of a saying keep of them."""


def marks_behind(facts, marks, name):
    """The marks behind one deed more."""
    return tuple([mark_behind(fact, mark, name) for fact, mark in zip(facts, marks)])


def mark_behind(fact, mark, name):
    """The mark of a fact behind one deed more."""
    word = fact[0]
    if word == "latest" and name == fact[2]:
        return 0
    if name != fact[1]:
        return mark
    if word == "done":
        return min(fact[2], mark + 1)
    if word == "modulo":
        return (mark + 1) % fact[2]
    return 1


def marks_of_row(facts, row):
    """The marks of a row."""
    marks = (0,) * len(facts)
    for name in row:
        marks = marks_behind(facts, marks, name)
    return marks


def fact_holds(fact, mark):
    """Whether a fact holds, by its mark."""
    if fact[0] == "done":
        return mark == fact[2]
    if fact[0] == "modulo":
        return mark == fact[3]
    return mark == 1
