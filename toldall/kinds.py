"""Which values are integers, names, deeds, rows, machines, books and sayings."""

from toldall.parts import share_party


def is_integer(thing):
    """Whether any value is an int that is not a bool."""
    return isinstance(thing, int) and not isinstance(thing, bool)


def is_number(thing):
    """Whether any value is an integer that is at least 0."""
    return is_integer(thing) and thing >= 0


def is_name(thing):
    """Whether any value is a string of one to eight lowercase letters."""
    if not isinstance(thing, str) or not 1 <= len(thing) <= 8:
        return False
    return all(["a" <= sign <= "z" for sign in thing])


def is_ascending(things):
    """Whether each of the things, which can be compared, is greater than the one before."""
    return all([things[k - 1] < things[k] for k in range(1, len(things))])


def is_name_set(thing):
    """Whether any value is a nonempty set of names."""
    return is_row(thing) and len(thing) > 0 and is_ascending(thing)


def is_number_set(thing):
    """Whether any value is a nonempty set of numbers."""
    if not isinstance(thing, tuple) or len(thing) == 0:
        return False
    return all([is_number(each) for each in thing]) and is_ascending(thing)


def is_pair(thing):
    """Whether any value is a tuple of two values."""
    return isinstance(thing, tuple) and len(thing) == 2


def is_deed(thing):
    """Whether any value is a pair of a name and a nonempty set of names."""
    return is_pair(thing) and is_name(thing[0]) and is_name_set(thing[1])


def is_row(thing):
    """Whether any value is a tuple of names."""
    return isinstance(thing, tuple) and all([is_name(each) for each in thing])


def is_machine(thing):
    """Whether any value is a machine."""
    return machine_fault(thing) is None


def is_book(thing):
    """Whether any value is a book."""
    return book_fault(thing) is None


def is_saying(thing):
    """Whether any value has the form of a saying, with any names."""
    # A list of what is left, as sayings may be nested deeper than calls should be.
    waiting = [thing]
    while waiting:
        inner = inner_sayings(waiting.pop())
        if inner is None:
            return False
        waiting.extend(inner)
    return True


def machine_fault(thing):
    """The first fault of a machine, as word and place; None for a machine."""
    if not is_pair(thing):
        return "shape", -1
    deeds, states = thing
    if not isinstance(deeds, tuple) or not isinstance(states, tuple):
        return "shape", -1
    if len(deeds) == 0 or len(states) == 0:
        return "shape", -1
    fault = deeds_fault(deeds)
    if fault is None:
        fault = states_fault(deeds, states)
    return fault


def deeds_fault(deeds):
    """The first fault in the deeds of a machine, None without any."""
    before = ""
    for k, deed in enumerate(deeds):
        if not is_deed(deed):
            return "deed", k
        if deed[0] <= before:
            return "order", k
        before = deed[0]
    return None


def states_fault(deeds, states):
    """The first fault in the states of a machine with these deeds, None without any."""
    names = {deed[0]: True for deed in deeds}
    for s, state in enumerate(states):
        if not isinstance(state, tuple):
            return "state", s
        j = wrong_step(names, len(states), state)
        if j is not None:
            return "step", (s, j)
    return None


def wrong_step(names, many, state):
    """The index of the first step of a state that cannot stand, None without any."""
    before = ""
    for j, step in enumerate(state):
        if not is_step(names, many, step) or step[0] <= before:
            return j
        before = step[0]
    return None


def is_step(names, many, thing):
    """Whether any value is a pair of one of the names and an index of one of so many states."""
    if not is_pair(thing) or not is_name(thing[0]) or thing[0] not in names:
        return False
    return is_number(thing[1]) and thing[1] < many


def book_fault(thing):
    """The first fault of a book, as word and place; None for a book."""
    fault = machine_fault(thing)
    if fault is None:
        place = exchange_place(thing[0], thing[1])
        if place is not None:
            fault = ("exchange", place)
    return fault


def exchange_place(deeds, states):
    """The first (state, deed, other) of a machine that a book forbids, None in a book."""
    ends = [dict(state) for state in states]
    parties = dict(deeds)
    places = {deed[0]: k for k, deed in enumerate(deeds)}
    for s, state in enumerate(states):
        for name, middle in state:
            for other, end in states[middle]:
                if share_party(parties[name], parties[other]):
                    continue
                turned = ends[s].get(other)
                if turned is None or ends[turned].get(name) != end:
                    return s, places[name], places[other]
    return None


def inner_sayings(thing):
    """The values that stand where a saying has sayings; None if the value cannot be one."""
    if not isinstance(thing, tuple) or len(thing) == 0 or not isinstance(thing[0], str):
        return None
    word = thing[0]
    if word == "not" and len(thing) == 2:
        return thing[1:]
    if word in ("and", "or") and len(thing) == 3:
        return thing[1:]
    if word == "knows" and len(thing) == 3 and is_name_set(thing[1]):
        return thing[2:]
    if is_fact(thing) or is_at(thing):
        return ()
    return None


def is_fact(thing):
    """Whether a tuple that begins with a string has the form of a fact."""
    word, many = thing[0], len(thing)
    if word == "done" and many == 3:
        return is_name(thing[1]) and is_number(thing[2]) and thing[2] >= 1
    if word == "modulo" and many == 4:
        return is_name(thing[1]) and is_modulus(thing[2], thing[3])
    if word == "latest" and many == 3:
        return is_name(thing[1]) and is_name(thing[2]) and thing[1] != thing[2]
    return False


def is_modulus(n, k):
    """Whether any two values are a number from 2 on and a number below it."""
    return is_number(n) and is_number(k) and n >= 2 and k < n


def is_at(thing):
    """Whether a tuple that begins with a string has the form of an "at"."""
    return thing[0] == "at" and len(thing) == 2 and is_number_set(thing[1])
