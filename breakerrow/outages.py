"""Timelines: rows with outages of the service, and the spells in which requests fail."""

from breakerrow.errors import InvalidIndex, InvalidOutages, InvalidTime
from breakerrow.rows import MOST_TIME, first_request, request_time
from breakerrow.runs import window_runs
from breakerrow.spells import spells_of, whole_time
from breakerrow.trains import Trains
from breakerrow.wholes import count_below, is_at_least, is_within

MOST_OUTAGES = 50


class Timeline:
    """A row of breakers and the outages of the service."""

    def __init__(self, row, outages):
        check_outages(outages)
        self.row = row
        self.outages = tuple(outages)
        self.spells = spells_of(row, self.outages)
        self.firsts = [spell.first for spell in self.spells]
        self.marks = marks_of(row, self.spells)

    def base_row(self):
        """Return the row."""
        return self.row

    def outage_list(self):
        """Return the list of the outages."""
        return list(self.outages)

    def __len__(self):
        return len(self.spells)

    def __getitem__(self, at):
        if not is_within(at, 0, len(self.marks) - 1):
            raise InvalidIndex(at)
        return self.marks[at]

    # As for rows and trains; Python would not stop at an InvalidIndex.
    def __iter__(self):
        raise TypeError("a timeline cannot be iterated over")

    def __eq__(self, other):
        return isinstance(other, Timeline) and self.row == other.row and self.outages == other.outages


def check_outages(outages):
    """Raise an error if a value is not a list of outages, each of which begins behind the end of the one before."""
    if not isinstance(outages, list) or len(outages) > MOST_OUTAGES:
        raise InvalidOutages(-1)
    least = 0
    for at, outage in enumerate(outages):
        if not is_outage(outage) or outage[0] < least:
            raise InvalidOutages(at)
        least = outage[1] + 1


def is_outage(value):
    """Return whether a value is an outage."""
    if not isinstance(value, tuple) or len(value) != 2:
        return False
    begin, end = value
    return is_at_least(begin, 0) and is_within(end, begin + 1, MOST_TIME)


def marks_of(row, spells):
    """Return for each spell its first request, the first success behind it, and when all breakers are closed again."""
    marks = []
    for at, spell in enumerate(spells):
        whole = whole_time(row, spell)
        if at + 1 < len(spells) and spells[at + 1].first <= whole:
            whole = None
        marks.append((spell.first, spell.recovered, whole))
    return marks


def check_spell(timeline, index):
    """Raise an error if there is no spell with an index."""
    if not is_within(index, 0, len(timeline) - 1):
        raise InvalidIndex(index)


def latest_spell(timeline, time):
    """Return the index of the last spell that begins at a time or before it, None if there is none."""
    begun = count_below(timeline.firsts, time + 1)
    return begun - 1 if begun > 0 else None


def spell_at(timeline, time):
    """Return the index of the spell that a time belongs to, None if there is none."""
    if not is_at_least(time, 0):
        raise InvalidTime(time)
    latest = latest_spell(timeline, time)
    if latest is None or time >= timeline.spells[latest].recovered:
        return None
    return latest


def first_success(timeline, time):
    """Return the time of the first request at a time or later that succeeds."""
    request = request_time(timeline.row, first_request(timeline.row, time))
    at = spell_at(timeline, request)
    if at is None:
        return request
    return timeline.spells[at].recovered


def arrivals(timeline, index, breaker):
    """Return the Trains of the times of a spell at which requests come to a breaker, or to the service behind all."""
    check_spell(timeline, index)
    if not is_within(breaker, 0, len(timeline.row)):
        raise InvalidIndex(breaker)
    spell = timeline.spells[index]
    return Trains(window_runs(spell.runs[breaker], spell.first, spell.recovered))


def starts(timeline, index):
    """Return the list of the states of the breakers before the first request of a spell."""
    check_spell(timeline, index)
    return list(timeline.spells[index].begun)


def openings(timeline, index):
    """Return the list of the times at which the breakers open first in a spell, None for one that does not."""
    check_spell(timeline, index)
    return list(timeline.spells[index].opened)
