"""Rows of breakers, the times of their requests, and their periods while the service is down."""

from breakerrow.errors import InvalidIndex, InvalidRow, InvalidTime
from breakerrow.wholes import is_at_least, is_within, rounded_up, steps_to

MOST_BREAKERS = 12
MOST_COUNT = 10 ** 12
MOST_TIME = 10 ** 30


class Row:
    """A row of circuit breakers and the times at which requests come to it."""

    def __init__(self, breakers, step, *, phase=0):
        check_breakers(breakers, "breakers")
        check_step(step)
        if not is_within(phase, 0, MOST_TIME):
            raise InvalidRow("phase", -1)
        self.breakers = tuple(breakers)
        self.step = step
        self.phase = phase

    def breaker_list(self):
        """Return the list of the breakers, from the outermost one on."""
        return list(self.breakers)

    def step_length(self):
        """Return the distance between two requests."""
        return self.step

    def phase_time(self):
        """Return the time of the first request."""
        return self.phase

    def __len__(self):
        return len(self.breakers)

    def __getitem__(self, at):
        if not is_within(at, 0, len(self.breakers) - 1):
            raise InvalidIndex(at)
        return self.breakers[at]

    # Without this, Python would take the items for those of the row, although `in` asks for times.
    def __iter__(self):
        raise TypeError("a row cannot be iterated over")

    def __contains__(self, x):
        return is_at_least(x, self.phase) and (x - self.phase) % self.step == 0

    def __add__(self, other):
        if not isinstance(other, Row) or other.step != self.step or other.phase != self.phase:
            raise InvalidRow("other", -1)
        return Row(list(self.breakers) + list(other.breakers), self.step, phase=self.phase)

    def __eq__(self, other):
        return (isinstance(other, Row) and self.breakers == other.breakers
                and self.step == other.step and self.phase == other.phase)


def is_breaker(value):
    """Return whether a value is a breaker."""
    if not isinstance(value, tuple) or len(value) != 3:
        return False
    failures, wait, successes = value
    return (is_within(failures, 1, MOST_COUNT) and is_within(wait, 1, MOST_TIME)
            and is_within(successes, 1, MOST_COUNT))


def check_breakers(breakers, part):
    """Raise an error with the name of a part if a value is not a list of breakers."""
    if not isinstance(breakers, list) or len(breakers) > MOST_BREAKERS:
        raise InvalidRow(part, -1)
    for at, breaker in enumerate(breakers):
        if not is_breaker(breaker):
            raise InvalidRow(part, at)


def check_step(step):
    """Raise an error if a value is not the distance between two requests."""
    if not is_within(step, 1, MOST_TIME):
        raise InvalidRow("step", -1)


def request_time(row, number):
    """Return the time of a request."""
    if not is_at_least(number, 0):
        raise InvalidIndex(number)
    return row.phase + number * row.step


def first_request(row, time):
    """Return the number of the first request at a time or later."""
    if not is_at_least(time, 0):
        raise InvalidTime(time)
    return steps_to(time - row.phase, row.step)


def periods(row):
    """Return the step and, for each breaker, the period of what it passes while the service is down."""
    found = [row.step]
    for breaker in row.breakers:
        found.append(rounded_up(breaker[1], found[-1]))
    return found


def row_period(row):
    """Return the period at the service while it is down."""
    return periods(row)[-1]


def slack(row):
    """Return by how much each wait could be greater without a change of the periods."""
    return [period - breaker[1] for period, breaker in zip(periods(row)[1:], row.breakers)]


def raised(row):
    """Return the row in which each wait is its period."""
    # A period that is too great for a wait is found by Row itself, the first one first.
    breakers = [(breaker[0], period, breaker[2]) for breaker, period in zip(row.breakers, periods(row)[1:])]
    return Row(breakers, row.step, phase=row.phase)


def least_period(row):
    """Return the least period of all rows of the same breakers in some order."""
    # With the longest wait first, no other wait is above its period, so that they change nothing.
    longest = max([1] + [breaker[1] for breaker in row.breakers])
    return rounded_up(longest, row.step)
