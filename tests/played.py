"""Requests that are sent one by one, by the rules of point 6, and what is seen of them."""

from breakerrow.rows import Row
from tests.support import trains_of_times

SERVED = ("served",)
FAILED = ("failed",)


def send(breakers, states, time, up):
    """Send one request through breakers in some states; return what happens to it and the states behind it."""
    states = list(states)
    told = SERVED if up else FAILED
    passed = []
    for place, (failures, wait, successes) in enumerate(breakers):
        kind, number = states[place]
        if kind == "open" and time - number < wait:
            told = ("rejected", place)
            break
        if kind == "open":
            states[place] = ("half", 0)
        passed.append(place)
    for place in passed:
        failures, wait, successes = breakers[place]
        kind, number = states[place]
        if told == SERVED and kind == "half" and number + 1 < successes:
            states[place] = ("half", number + 1)
        elif told == SERVED:
            states[place] = ("closed", 0)
        elif kind == "closed" and number + 1 < failures:
            states[place] = ("closed", number + 1)
        else:
            states[place] = ("open", time)
    return told, states


def is_up(outages, time):
    return not any(begin <= time < end for begin, end in outages)


class Played:
    """A row with outages up to a horizon, request by request."""

    def __init__(self, row, outages, horizon):
        self.breakers = row.breaker_list()
        self.horizon = horizon
        self.times = list(range(row.phase_time(), horizon, row.step_length()))
        self.told = []
        self.states = []
        states = self.fresh = [("closed", 0) for breaker in self.breakers]
        for time in self.times:
            told, states = send(self.breakers, states, time, is_up(outages, time))
            self.told.append(told)
            self.states.append(states)
        self.ranges = self.failing_ranges()

    def failing_ranges(self):
        """List the spells as ranges of the numbers of their requests."""
        found = []
        low = None
        for number, told in enumerate(self.told):
            if told == SERVED and low is not None:
                found.append(range(low, number))
                low = None
            elif told != SERVED and low is None:
                low = number
        assert low is None, "the horizon is too near"
        return found

    def marks(self):
        """List the spells as Timeline does."""
        found = []
        for numbers, following in zip(self.ranges, self.ranges[1:] + [range(len(self.times), 0)]):
            whole = None
            for number in range(numbers.stop, following.start):
                if whole is None and all(kind == "closed" for kind, count in self.states[number]):
                    whole = self.times[number]
            found.append((self.times[numbers.start], self.times[numbers.stop], whole))
        return found

    def comes(self, number, breaker):
        """Return whether a request comes to a breaker, or to the service."""
        return self.told[number][0] != "rejected" or breaker <= self.told[number][1]

    def arrivals(self, index, breaker):
        """List the trains of the times of a spell at which requests come to a breaker, or to the service."""
        return trains_of_times([self.times[number] for number in self.ranges[index] if self.comes(number, breaker)])

    def starts(self, index):
        first = self.ranges[index].start
        return self.states[first - 1] if first > 0 else self.fresh

    def openings(self, index):
        """List when each breaker opens first in a spell."""
        return [next((self.times[number] for number in self.ranges[index]
                      if self.states[number][breaker] == ("open", self.times[number])), None)
                for breaker in range(len(self.breakers))]

    def states_at(self, time):
        done = [states for at, states in zip(self.times, self.states) if at <= time]
        return done[-1] if done else self.fresh

    def states_by_time(self):
        """List the states behind each time of the horizon."""
        found = []
        number = 0
        states = self.fresh
        for time in range(self.horizon):
            if number < len(self.times) and self.times[number] == time:
                states = self.states[number]
                number += 1
            found.append(states)
        return found

    def numbers(self, first, after):
        """List the numbers of the requests of a window."""
        return [number for number, time in enumerate(self.times) if first <= time < after]


def random_row(source, most=5):
    """Return a random row with small numbers of all kinds."""
    breakers = [(source.choice((1, 1, 2, 3, 4, 9)), source.randint(1, source.choice((2, 5, 12))),
                 source.choice((1, 1, 2, 3, 6))) for place in range(source.randint(0, most))]
    return Row(breakers, source.choice((1, 1, 1, 2, 3, 5)), phase=source.choice((0, 0, 1, 4, 13)))


def random_outages(source, most=5, longest=40):
    """Return random outages, some of which are shorter than the steps of random rows, or close to one another."""
    outages = []
    begin = source.choice((0, 0, 1, 2, 5, 14))
    for place in range(source.randint(0, most)):
        end = begin + source.randint(1, source.choice((2, 9, longest)))
        outages.append((begin, end))
        begin = end + source.randint(1, source.choice((1, 6, 30)))
    return outages


def horizon_of(outages, more=90):
    """Return a time behind which nothing new happens to random rows."""
    return max([14] + [end for begin, end in outages]) + more
