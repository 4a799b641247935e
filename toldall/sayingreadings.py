"""How sayings are read."""

from toldall.bookreadings import number_read
from toldall.errors import InvalidRow
from toldall.kinds import is_saying
from toldall.usable import need_text


def saying_read(text):
    """The saying by form that a string writes; InvalidRow if it writes none."""
    need_text(text)
    form = saying_written(text)
    if form is None:
        raise InvalidRow(text)
    return form


def saying_written(text):
    """The saying by form that a string writes, None if it writes none."""
    if most_open(text) > 30:
        return None
    form = form_written(text)
    # Names, numbers and sets are looked at here: what is none of them makes no saying.
    return form if is_saying(form) else None


def most_open(text):
    """How many brackets are open in a text, at most, at any sign."""
    many = 0
    most = 0
    for sign in text:
        if sign == "(":
            many = many + 1
            most = max(most, many)
        elif sign == ")":
            many = many - 1
    return most


def form_written(text):
    """What a text writes that may be a saying, None where it surely is none."""
    word, _, inner = text.partition("(")
    if not inner.endswith(")"):
        return None
    words = words_within(inner[:-1])
    if word in ("not", "and", "or"):
        return (word, *[form_written(each) for each in words])
    if word == "knows":
        return (word, tuple(words[0].split("+")), *[form_written(each) for each in words[1:]])
    if word == "at":
        return word, tuple([number_read(each) for each in words])
    if word == "latest":
        return (word, *words)
    return (word, words[0], *[number_read(each) for each in words[1:]])


def words_within(text):
    """The words of a text between the commas that stand in no brackets.

    Brackets that do not fit remain in a word, which then writes neither a name nor a number nor a saying.
    """
    words = [""]
    many = 0
    for sign in text:
        if sign == "(":
            many = many + 1
        elif sign == ")":
            many = many - 1
        if sign == "," and many == 0:
            words.append("")
        else:
            words[-1] = words[-1] + sign
    return words
