"""How machines are read."""

from toldall.errors import InvalidText
from toldall.kinds import is_name, is_name_set
from toldall.usable import need_text


def machine_read(text):
    """The machine that any string writes; InvalidText if it writes none."""
    need_text(text)
    lines = [line.split(" ") for line in text.split("\n")]
    many = how_many_deeds(lines)
    if many == 0:
        raise InvalidText(0, 0)
    refuse_deed_lines(lines[:many])
    deeds = [(words[1], tuple(words[2].split(","))) for words in lines[:many]]
    refuse_state_lines(lines, deeds)
    return tuple(deeds), tuple([state_written(words) for words in lines[many:]])


def how_many_deeds(lines):
    """How many lines, the first ones, are those of deeds."""
    many = 0
    while many < len(lines) and lines[many][0] == "deed":
        many = many + 1
    return many


def refuse_deed_lines(lines):
    """Raise InvalidText for the first line of a deed that is not possible."""
    before = ""
    for k, words in enumerate(lines):
        field = wrong_word_of_deed(words, before)
        if field is not None:
            raise InvalidText(k, field)
        before = words[1]


def wrong_word_of_deed(words, before):
    """The index of the first word that cannot stand behind the name of the deed before, or None."""
    if len(words) < 2 or not is_name(words[1]) or words[1] <= before:
        return 1
    if len(words) < 3 or not is_name_set(tuple(words[2].split(","))):
        return 2
    if len(words) > 3:
        return 3
    return None


def refuse_state_lines(lines, deeds):
    """Raise InvalidText for the first line behind those of deeds that is not possible, or missing."""
    names = {deed[0]: True for deed in deeds}
    many = len(lines) - len(deeds)
    for k, words in enumerate(lines):
        if k >= len(deeds):
            field = wrong_word_of_state(words, names, many)
            if field is not None:
                raise InvalidText(k, field)
    if many == 0:
        raise InvalidText(len(lines), 0)


def wrong_word_of_state(words, names, many):
    """The index of the first word that cannot stand in a line of one of so many states, or None."""
    if words[0] != "state":
        return 0
    if len(words) == 1:
        return 1
    if words[1] == "-":
        return 2 if len(words) > 2 else None
    before = ""
    for k, word in enumerate(words):
        if k > 0:
            name, end = step_written(word)
            if name not in names or name <= before or end is None or end >= many:
                return k
            before = name
    return None


def step_written(word):
    """The name and the number that a word of a step writes, None for a number that is none."""
    name, _, digits = word.partition(":")
    return name, number_read(digits)


def number_read(word):
    """The number of at most sixty digits that a string writes without a leading zero, or None."""
    if not 1 <= len(word) <= 60 or not all(["0" <= sign <= "9" for sign in word]):
        return None
    if word[0] == "0" and len(word) > 1:
        return None
    return int(word)


def state_written(words):
    """The state that the words of a line, which is possible, write."""
    if words[1] == "-":
        return ()
    return tuple([step_written(word) for word in words[1:]])
