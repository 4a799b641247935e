"""How names, sayings and sets of parties are read that are single words."""

from toldall.kinds import is_name, is_name_set
from toldall.sayingreadings import saying_written


def value_written(kind, word):
    """The name, the saying by form or the nonempty set of names that a word writes, None if it writes none."""
    if kind == "saying":
        return saying_written(word)
    if kind == "parties":
        parties = tuple(word.split("+"))
        return parties if is_name_set(parties) else None
    return word if is_name(word) else None


def wrong_value(kinds, words):
    """The index of the first word that does not write a value of its kind, or is one too many; None without any.

    If a word is missing, it is the number of the words.
    """
    for k, kind in enumerate(kinds):
        if k == len(words) or value_written(kind, words[k]) is None:
            return k
    return len(kinds) if len(words) > len(kinds) else None


def values_written(kinds, words):
    """The values that words write, of which none is wrong."""
    return [value_written(kind, word) for kind, word in zip(kinds, words)]
