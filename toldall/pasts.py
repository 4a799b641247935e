"""What parties know of a row: its past, and the rest."""

from toldall.exchanges import rows_are_alike
from toldall.parts import share_party
from toldall.usable import need_book, need_parties, need_row


def past_indexes(book, row, parties):
    """The set of the indexes that the deeds of the past have in the row."""
    need_row_and_parties(book, row, parties)
    return indexes_of_past(book[0], row, parties)


def past_of(book, row, parties):
    """The past of the parties in the row."""
    need_row_and_parties(book, row, parties)
    return past_row(book[0], row, parties)


def rest_of(book, row, parties):
    """The deeds of the row that are not in the past of the parties, in their order."""
    need_row_and_parties(book, row, parties)
    indexes = indexes_of_past(book[0], row, parties)
    return tuple([name for k, name in enumerate(row) if k not in indexes])


def looks_alike(book, parties, row, other):
    """Whether two rows look alike to the parties: their pasts of them are alike."""
    need_book(book)
    need_parties(book, parties)
    need_row(book, row)
    need_row(book, other, "other")
    deeds = book[0]
    return rows_are_alike(deeds, past_row(deeds, row, parties), past_row(deeds, other, parties))


def need_row_and_parties(book, row, parties):
    """Refuse what is no book, no row of it, or no nonempty set of its parties."""
    need_book(book)
    need_row(book, row)
    need_parties(book, parties)


def indexes_of_past(deeds, row, parties):
    """The indexes of the deeds from which a chain leads to a deed of one of the parties."""
    own = dict(deeds)
    # From the end on: a deed is in the past if it has one of the parties, or one of a later deed of the past.
    met = {party: True for party in parties}
    indexes = []
    for k in reversed(range(len(row))):
        if share_party(own[row[k]], met):
            indexes.append(k)
            for party in own[row[k]]:
                met[party] = True
    return tuple(sorted(indexes))


def past_row(deeds, row, parties):
    """The past of the parties in a row of these deeds."""
    return tuple([row[k] for k in indexes_of_past(deeds, row, parties)])
