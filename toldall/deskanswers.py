"""What a desk answers to strings that ask about its house."""

from toldall.booktexts import machine_text
from toldall.errors import InvalidRow
from toldall.housereadings import event_written
from toldall.housetexts import event_line
from toldall.sayingtexts import saying_text
from toldall.wordreadings import values_written, wrong_value


def in_words(words):
    """The words with single spaces between, - without any."""
    return " ".join(words) if words else "-"


def in_lines(lines):
    """The lines with " / " between, - without any."""
    return " / ".join(lines) if lines else "-"


def said_of(saying):
    """The text of a saying, - for None."""
    return "-" if saying is None else saying_text(saying)


def yes_or_no(truth):
    """How it is told whether something is so."""
    return "yes" if truth else "no"


def news_of(pairs):
    """The pairs of a saying and parties."""
    told = [(saying_text(saying), "+".join(parties)) for saying, parties in pairs]
    return in_words([f"{text}@{names}" for text, names in told])


def undo_told(house):
    """The line of the event that is undone."""
    return event_line(house.undo())


def log_told(house):
    """The lines of the events."""
    log = house.log()
    return in_lines([event_line(event) for event in log[1:]])


def table_told(house):
    """The lines of the table."""
    return in_lines(house.table())


def book_told(house):
    """The lines of the book with the listeners."""
    text = machine_text(house.book_now)
    return in_lines(text.split("\n"))


def run_told(house):
    """The deeds that were done."""
    return in_words(house.run_now)


def can_told(house):
    """The deeds that are possible."""
    return in_words(house.can_do())


def watched_told(house):
    """The sayings that are watched."""
    return in_words([saying_text(saying) for saying in house.watched_now])


def listeners_told(house):
    """The listeners that came."""
    return in_words([f"{deed}@{party}" for deed, party in house.listeners_now])


def guards_told(house):
    """The guards of deeds."""
    return in_words([f"{deed}@{saying_text(saying)}" for deed, saying in house.guards_now])


def news_told(house):
    """Who knows what since the last deed."""
    return news_of(house.news())


def lost_told(house):
    """Who does not know what any more since the last deed."""
    return news_of(house.news(lost=True))


def tally_told(house):
    """How often deeds were done."""
    return in_words([f"{deed}@{many}" for deed, many in house.tally()])


def guard_told(house, deed):
    """The guard of a deed."""
    return said_of(house[deed])


def knowers_told(house, saying):
    """The parties that know a saying."""
    return in_words(house.knowers(saying))


def holds_told(house, saying):
    """Whether a saying holds."""
    return yes_or_no(house.holds(saying))


def together_told(house, parties, saying):
    """Whether the parties together know a saying."""
    return yes_or_no(house.together(parties, saying))


def past_told(house, parties):
    """The past of the parties."""
    return in_words(house.past(parties))


def since_told(house, name):
    """The deeds that were done behind the moment of a name."""
    return in_words(house.done_since(name))


# What stands alone, and what has words behind it, with the kinds of these.
ALONE = {"undo": undo_told, "log": log_told, "table": table_told, "book": book_told, "run": run_told, "can": can_told,
         "watched": watched_told, "listeners": listeners_told, "guards": guards_told, "news": news_told,
         "lost": lost_told, "tally": tally_told}
ASKED = {"of": guard_told, "knowers": knowers_told, "holds": holds_told, "together": together_told,
         "past": past_told, "since": since_told}
KINDS = {"of": ("name",), "knowers": ("saying",), "holds": ("saying",), "together": ("parties", "saying"),
         "past": ("parties",), "since": ("name",)}


def answered(house, row):
    """The answer to a string that asks about a house; InvalidRow for any other string."""
    if row in ALONE:
        action = ALONE[row]
        return action(house)
    word, _, rest = row.partition(" ")
    if word == "bars":
        return reason_told(house, row, rest)
    words = rest.split(" ")
    if word not in ASKED or wrong_value(KINDS[word], words) is not None:
        raise InvalidRow(row)
    asked = ASKED[word]
    given = values_written(KINDS[word], words)
    return asked(house, *given)


def reason_told(house, row, line):
    """Why the event of a line is not possible; InvalidRow for any other line."""
    event = event_written(line)
    if event is None:
        raise InvalidRow(row)
    reason = house.barred(event)
    return "-" if reason is None else reason
