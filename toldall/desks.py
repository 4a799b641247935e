"""Desks, at which strings are said to a house."""

from toldall.deskanswers import answered
from toldall.errors import InvalidRow
from toldall.housereadings import book_written, event_written
from toldall.houses import House


class Desk:
    """A house to which strings are said."""

    def __init__(self, book):
        self._house = House(book)
        self._started = 0
        self._finished = 0

    def say(self, row):
        """The answer to any string that is known; InvalidRow for any other value."""
        self._started = self._started + 1
        try:
            return self._answer(row)
        finally:
            self._finished = self._started

    def counts(self):
        """How many calls of say were started, and how many finished."""
        return self._started, self._finished

    def _answer(self, row):
        """As say, without the counts."""
        if not isinstance(row, str):
            raise InvalidRow(row)
        event = event_written(row)
        if event is not None:
            return str(self._house.happen(event))
        book = book_written(row)
        if book is None:
            return answered(self._house, row)
        self._house = House(book)
        return "ok"
