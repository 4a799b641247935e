"""How sayings are written."""

from toldall.kinds import inner_sayings
from toldall.sayingforms import parts_within
from toldall.usable import need_saying_form


def saying_text(saying):
    """The text of a saying."""
    need_saying_form(saying)
    texts = []
    # From the last part on: the texts of the sayings within a part are then the last ones, in turned order.
    for part, place, above in parts_within(saying)[::-1]:
        left = len(texts) - len(inner_sayings(part))
        texts = [*texts[:left], text_of_part(part, texts[left:][::-1])]
    return texts[0]


def text_of_part(part, inner):
    """The text of a part, by those of the sayings directly within it."""
    words = ",".join([*own_words(part), *inner])
    return f"{part[0]}({words})"


def own_words(part):
    """The words of what stands in a part ahead of the sayings within it."""
    word = part[0]
    if word == "knows":
        return ["+".join(part[1])]
    if word == "at":
        return [str(state) for state in part[1]]
    if word in ("not", "and", "or"):
        return []
    return [str(each) for each in part[1:]]
