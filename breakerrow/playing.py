"""Rows played call by call."""

from breakerrow.errors import InvalidBound, InvalidCall, InvalidLog, InvalidRow, LimitExceeded
from breakerrow.rows import Row, request_time
from breakerrow.sending import MOST_REQUESTS, closed_states, sent
from breakerrow.wholes import is_within


class Playing:
    """A row behind some requests."""

    def __init__(self, row):
        if not isinstance(row, Row):
            raise InvalidRow("row", -1)
        self.row = row
        self.words = []
        # The states behind each number of requests, so that all of them can be gone back to.
        self.history = [closed_states(len(row))]

    def base_row(self):
        """Return the row."""
        return self.row

    def next_request(self):
        """Return the time of the next request."""
        return request_time(self.row, len(self.words))

    def request(self, word):
        """Do the next request, with the service "up" or "down", and return what happens to it."""
        if not is_word(word):
            raise InvalidCall(word)
        if len(self.words) >= MOST_REQUESTS:
            raise LimitExceeded(MOST_REQUESTS)
        told, states = sent(self.row.breakers, self.history[-1], self.next_request(), word == "up")
        self.words.append(word)
        self.history.append(states)
        return told

    def state_list(self):
        """Return the list of the states of the breakers behind the last request."""
        return list(self.history[-1])

    def is_whole(self):
        """Return whether all breakers are closed, without failures."""
        return self.history[-1] == closed_states(len(self.row))

    def log(self):
        """Return the list of the words of all requests."""
        return list(self.words)

    def undo(self, count):
        """Go back to the state before the last so many requests."""
        if not is_within(count, 0, len(self.words)):
            raise InvalidBound("count")
        left = len(self.words) - count
        self.words = self.words[:left]
        self.history = self.history[:left + 1]

    def __eq__(self, other):
        return isinstance(other, Playing) and self.row == other.row and self.words == other.words


def is_word(value):
    """Return whether a value is a word for a request."""
    return isinstance(value, str) and value in ("up", "down")


def check_words(log):
    """Raise an error if a value is not a list of words for requests."""
    if not isinstance(log, list) or len(log) > MOST_REQUESTS:
        raise InvalidLog(-1)
    for at, word in enumerate(log):
        if not is_word(word):
            raise InvalidLog(at)


def played(row, log):
    """Return the Playing of a row behind the requests of a log, and what happens to them."""
    playing = Playing(row)
    check_words(log)
    told = [playing.request(word) for word in log]
    return playing, told


def replay(row, log):
    """Return the Playing of a row behind the requests of a log."""
    return played(row, log)[0]


def outcomes(row, log):
    """Return the list of what happens to the requests of a log."""
    return played(row, log)[1]
