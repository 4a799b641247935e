"""Events by form."""

from toldall.kinds import is_name, is_saying

# What stands behind the word of an event.
KINDS = {"do": ("name",), "listen": ("name", "name"), "watch": ("saying",), "drop": ("saying",),
         "guard": ("name", "saying"), "free": ("name",), "mark": ("name",)}


def is_event(thing):
    """Whether any value is an event by form."""
    if not isinstance(thing, tuple) or len(thing) == 0 or not isinstance(thing[0], str):
        return False
    kinds = kinds_behind(thing[0])
    if kinds is None or len(thing) != len(kinds) + 1:
        return False
    return all([is_of_kind(kind, each) for kind, each in zip(kinds, thing[1:])])


def kinds_behind(word):
    """The kinds of what stands behind the word of an event, None for any other string."""
    return KINDS.get(word)


def is_of_kind(kind, thing):
    """Whether any value is a name, or a saying by form."""
    return is_saying(thing) if kind == "saying" else is_name(thing)
