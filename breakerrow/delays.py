"""Delays: how long after the end of a last outage the first request succeeds, for all its possible ends.

The delays fall by 1 from each end to the next one, down to 0 at a time at which a request reaches the service, behind
which they jump up again: they look like the teeth of a saw. Teeth of equal lengths that follow one another are kept as
a train (start, length, count) of the ends at which they begin.
"""

from breakerrow.errors import InvalidBound, InvalidTime
from breakerrow.outages import check_outages
from breakerrow.runs import last_time, normal_form, times_before, window_runs
from breakerrow.spells import spells_of
from breakerrow.wholes import common_divisor, is_at_least


class Delays:
    """The delays of a row with some outages and a last one, for all possible ends of the last one."""

    def __init__(self, row, outages, begin):
        check_outages(outages)
        least = outages[-1][1] + 1 if outages else 0
        if not is_at_least(begin, least):
            raise InvalidBound("begin")
        # Without an end, the last outage shows all requests that could reach the service behind it.
        spells = spells_of(row, outages + [(begin, None)])
        self.begin = begin
        self.runs = normal_form(window_runs(spells[-1].runs[-1], begin + 1, None))
        self.teeth = teeth_of(self.runs, begin)

    def __getitem__(self, at):
        if not is_at_least(at, self.begin + 1):
            raise InvalidTime(at)
        return delay_of(self.teeth, at)

    # There is no last end, and the first one is not 0.
    def __iter__(self):
        raise TypeError("delays cannot be iterated over")


def teeth_of(runs, begin):
    """Return the teeth behind a time that go down to the times of some trains in their normal form, without end."""
    teeth = []
    latest = begin
    for run in runs:
        start, step, count = run
        teeth.append((latest + 1, start - latest, 1))
        # In the normal form, each train but the last one, which has no end, has several times.
        teeth.append((start + 1, step, None if count is None else count - 1))
        latest = last_time(run)
    return teeth


def delay_of(teeth, end):
    """Return the delay of an end."""
    found = 0
    for start, length, count in teeth:
        if start <= end:
            found = (start - end - 1) % length
    return found


def reached_ends(tooth, after):
    """Return how many whole teeth of a train are before an end, and how many ends of the next one."""
    start, length, count = tooth
    reached = max(0, after - start)
    if count is not None:
        reached = min(reached, length * count)
    return divmod(reached, length)


def check_first(delays, first):
    """Raise an error if a value is not a possible end."""
    if not is_at_least(first, delays.begin + 1):
        raise InvalidBound("first")


def check_last(first, last):
    """Raise an error if a value is not an end from the first one on."""
    if not is_at_least(last, first):
        raise InvalidBound("last")


def check_most(most):
    """Raise an error if a value is not an integer of at least 0."""
    if not is_at_least(most, 0):
        raise InvalidBound("most")


def tops(delays, first):
    """Return the ascending list of the end `first` and, of each train of teeth, the first tooth's start behind it."""
    found = [first]
    for tooth in delays.teeth:
        start, length, count = tooth
        before = times_before(tooth, first + 1)
        if count is None or before < count:
            found.append(start + before * length)
    return found


def greatest_delay(delays, first, last):
    """Return the greatest delay of the ends from first to last, and the least end that has it."""
    check_first(delays, first)
    check_last(first, last)
    best = first
    for end in tops(delays, first):
        if end <= last and delays[end] > delays[best]:
            best = end
    return (delays[best], best)


def first_above(delays, most, first):
    """Return the least end from first on with a delay above a bound, None if there is none."""
    check_most(most)
    check_first(delays, first)
    for end in tops(delays, first):
        if delays[end] > most:
            return end
    return None


def total_before(delays, after):
    """Return the sum of the delays of all possible ends before an end."""
    total = 0
    for tooth in delays.teeth:
        length = tooth[1]
        whole, rest = reached_ends(tooth, after)
        total += whole * (length * (length - 1) // 2) + rest * (length - 1) - rest * (rest - 1) // 2
    return total


def total_delay(delays, first, last):
    """Return the sum of the delays of the ends from first to last."""
    check_first(delays, first)
    check_last(first, last)
    return total_before(delays, last + 1) - total_before(delays, first)


def mean_delay(delays, first, last):
    """Return the mean of the delays of the ends from first to last, in lowest terms."""
    total = total_delay(delays, first, last)
    number = last - first + 1
    divisor = common_divisor(number, total)
    return (total // divisor, number // divisor)


def within_before(delays, most, after):
    """Return how many possible ends before an end have a delay of at most a bound."""
    total = 0
    for tooth in delays.teeth:
        length = tooth[1]
        whole, rest = reached_ends(tooth, after)
        # The ends of a tooth with greater delays come first.
        greater = max(0, length - 1 - most)
        total += whole * (length - greater) + max(0, rest - greater)
    return total


def count_within(delays, most, first, last):
    """Return how many ends from first to last have a delay of at most a bound."""
    check_most(most)
    check_first(delays, first)
    check_last(first, last)
    return within_before(delays, most, last + 1) - within_before(delays, most, first)


def settled(delays):
    """Return the time of the first pass behind the begin from which on the distances are equal, and the distance."""
    start, step, count = delays.runs[-1]
    if len(delays.runs) > 1:
        # In the normal form, a time that fits the last train may belong to the train before.
        ahead = last_time(delays.runs[-2])
        if ahead + step == start:
            return (ahead, step)
    return (start, step)
