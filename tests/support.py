"""What the tests have in common: a time limit, checks of errors, and rows and trains worked out step by step."""

import random
import signal
import unittest

SECONDS = 30

NOT_INTEGERS = (None, True, False, "1", "", b"1", [], [1], {}, {1: 1}, {1}, (), (1,), (1, 1, 1), 1j, object(),
                slice(0, 1), range(3), len, int)


def run_out(number, frame):
    raise AssertionError("this takes too long: nothing may be computed by going through all requests or times")


class Case(unittest.TestCase):
    """A test that fails, instead of running on, if it takes too long."""

    def setUp(self):
        self.handler = signal.signal(signal.SIGALRM, run_out)
        signal.alarm(SECONDS)

    def tearDown(self):
        signal.alarm(0)
        signal.signal(signal.SIGALRM, self.handler)

    def assert_error(self, error, fields, call, *args, **named):
        """Check that a call raises an error with just these values of its attributes."""
        with self.assertRaises(error) as caught:
            call(*args, **named)
        for name, value in fields.items():
            told = getattr(caught.exception, name)
            if type(value) in (int, str):
                self.assertEqual((type(told), told), (type(value), value))
            else:
                self.assertIs(told, value)


def seeded(name):
    """Return a source of random numbers that is the same in each run."""
    return random.Random(name)


def random_breakers(source, most):
    return [(source.randint(1, 3), source.randint(1, 14), source.randint(1, 3))
            for place in range(source.randint(0, most))]


def passes_while_down(breakers, step, phase, requests):
    """Send requests one by one while the service is down (point 6).

    Returns the time at which the last breaker has opened first, or None, and for each breaker
    the times at which it passed a request.
    """
    states = [("closed", 0) for breaker in breakers]
    opened = {}
    passed = [[] for breaker in breakers]
    for number in range(requests):
        time = phase + number * step
        reached = []
        for place, (failures, wait, successes) in enumerate(breakers):
            if states[place][0] == "open":
                if time - states[place][1] < wait:
                    break
                states[place] = ("half", 0)
            passed[place].append(time)
            reached.append(place)
        for place in reached:
            kind, number_of = states[place]
            if kind == "closed" and number_of + 1 < breakers[place][0]:
                states[place] = ("closed", number_of + 1)
            else:
                states[place] = ("open", time)
                opened.setdefault(place, time)
    if len(opened) < len(breakers):
        return None, passed
    return max(opened.values(), default=-1), passed


def random_trains(source, most=6, endless=None):
    """Return a random list of trains, in which neighbours often have a distance or a step in common."""
    trains = []
    start = source.randint(0, 5)
    length = source.randint(0, most)
    if endless is None:
        endless = source.random() < 0.4
    for place in range(length):
        step = source.randint(1, 4)
        count = source.randint(1, 4)
        if endless and place == length - 1:
            count = None
        trains.append((start, step, count))
        start += step * ((count or 1) - 1) + source.choice((1, 1, 2, 3, step, step, 9))
    return trains


def is_endless(trains):
    return bool(trains) and trains[-1][2] is None


def times_of(trains, horizon):
    """List the times of trains below a horizon, one by one."""
    times = []
    for start, step, count in trains:
        time = start
        while time < horizon and count != 0:
            times.append(time)
            time += step
            count = None if count is None else count - 1
    return times


def trains_of_times(times, endless=False):
    """Return the normal form of listed times, found time by time; if endless, the last train goes on for ever."""
    trains = []
    place = 0
    while place < len(times):
        step = times[place + 1] - times[place] if place + 1 < len(times) else 1
        count = 1
        while place + count < len(times) and times[place + count] == times[place] + count * step:
            count += 1
        trains.append((times[place], step, count))
        place += count
    if endless:
        start, step, count = trains[-1]
        trains[-1] = (start, step, None)
    return trains


def moved(trains, scale, shift):
    """Return the trains with all times multiplied, and then moved; a single time keeps the step 1."""
    return [(start * scale + shift, step * scale if count != 1 else 1, count) for start, step, count in trains]


def blocks(number, start=0, distance=200, length=150):
    """Return so many trains of neighbouring times with gaps between them."""
    return [(start + distance * place, 1, length) for place in range(number)]
