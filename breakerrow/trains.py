"""Trains: times in order, as a few arithmetic sequences."""

from breakerrow.errors import InvalidBound, InvalidIndex, InvalidTime, InvalidTrains, LimitExceeded
from breakerrow.runs import (counts_ahead, is_train, last_time, meetings, normal_form, thinned_runs, times_before,
                             total_count, window_runs)
from breakerrow.wholes import count_below, is_at_least

MOST_TRAINS = 1000


class Trains:
    """The times of a list of trains, each of which starts behind the one before."""

    def __init__(self, trains):
        check_trains(trains)
        self.runs = normal_form(trains)
        self.firsts = [run[0] for run in self.runs]
        self.ahead = counts_ahead(self.runs)
        self.total = total_count(self.runs)

    def train_list(self):
        """Return the trains in the normal form."""
        return list(self.runs)

    def __len__(self):
        return len(self.runs)

    def __contains__(self, x):
        return is_at_least(x, 0) and count_before(self, x) < count_before(self, x + 1)

    def __getitem__(self, at):
        if not is_at_least(at, 0) or (self.total is not None and at >= self.total):
            raise InvalidIndex(at)
        place = count_below(self.ahead, at + 1) - 1
        return self.runs[place][0] + (at - self.ahead[place]) * self.runs[place][1]

    # Without this, Python would go through all indices, of which there may be no end.
    def __iter__(self):
        raise TypeError("trains cannot be iterated over")

    def __add__(self, other):
        if not isinstance(other, Trains) or not is_behind(self.runs, other.runs):
            raise InvalidTrains(-1)
        return trains_of(self.runs + other.runs)

    def __eq__(self, other):
        return isinstance(other, Trains) and self.runs == other.runs


def check_trains(trains):
    """Raise an error if a value is not a list of trains, each of which starts behind the one before."""
    if not isinstance(trains, list) or len(trains) > MOST_TRAINS:
        raise InvalidTrains(-1)
    latest = -1
    for at, train in enumerate(trains):
        if latest is None or not is_train(train) or train[0] <= latest:
            raise InvalidTrains(at)
        latest = last_time(train)


def is_behind(one, other):
    """Return whether all times of a list of trains are behind those of another one."""
    if one == [] or other == []:
        return True
    latest = last_time(one[-1])
    return latest is not None and latest < other[0][0]


def trains_of(runs):
    """Return the Trains of a list of trains in order, of which there may be too many."""
    normal = normal_form(runs)
    if len(normal) > MOST_TRAINS:
        raise LimitExceeded(MOST_TRAINS)
    return Trains(normal)


def time_count(trains):
    """Return the number of the times, None if they do not end."""
    return trains.total


def count_before(trains, time):
    """Return how many times are before a time."""
    if not is_at_least(time, 0):
        raise InvalidTime(time)
    place = count_below(trains.firsts, time) - 1
    if place < 0:
        return 0
    return trains.ahead[place] + times_before(trains.runs[place], time)


def next_time(trains, time):
    """Return the first time that is not before a time, None if there is none."""
    before = count_before(trains, time)
    if before == trains.total:
        return None
    return trains[before]


def latest_time(trains, time):
    """Return the last time that is not behind a time, None if there is none."""
    if not is_at_least(time, 0):
        raise InvalidTime(time)
    reached = count_before(trains, time + 1)
    if reached == 0:
        return None
    return trains[reached - 1]


def window(trains, first, after):
    """Return the Trains of the times from first to after - 1, or of all from first on if after is None."""
    if not is_at_least(first, 0):
        raise InvalidBound("first")
    if after is not None and not is_at_least(after, first):
        raise InvalidBound("after")
    return Trains(window_runs(trains.runs, first, after))


def split_after(trains, count):
    """Return the Trains of the first so many times, and those of the others."""
    if not is_at_least(count, 0):
        raise InvalidBound("count")
    if trains.total is not None and count >= trains.total:
        return (window(trains, 0, None), Trains([]))
    border = trains[count]
    return (window(trains, 0, border), window(trains, border, None))


def thinned(trains, wait, time):
    """Return the Trains of what a breaker passes that has opened at a time, if all that it passes fails."""
    if not is_at_least(wait, 1):
        raise InvalidBound("wait")
    if not is_at_least(time, 0):
        raise InvalidTime(time)
    return Trains(thinned_runs(trains.runs, wait, time))


def shared(one, other):
    """Return the Trains of the times that are in both of two Trains."""
    return trains_of(meetings(one.runs, other.runs))
