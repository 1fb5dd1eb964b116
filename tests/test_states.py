"""States (point 21), counts of requests (points 22 and 23), outcomes (point 24) and open times (point 25)."""

from breakerrow import states as module
from breakerrow.errors import InvalidBound, InvalidIndex, InvalidTime
from breakerrow.outages import Timeline
from breakerrow.rows import Row
from breakerrow.states import came, failed, outcome, rejected, states_at, succeeded, time_open
from tests.played import Played, SERVED, horizon_of, random_outages, random_row
from tests.support import NOT_INTEGERS, Case, seeded

TL = Timeline(Row([(3, 5, 2)], 1), [(10, 20)])
TWO = Timeline(Row([(2, 3, 1), (1, 4, 1)], 1), [(10, 25)])
FAR = 10 ** 499
BY_BREAKER = (came, rejected, time_open)
ALL = BY_BREAKER + (failed, succeeded)


def played_and_told(source, most=5):
    """Return random requests that are sent one by one, and the Timeline for them."""
    row, outages = random_row(source, most), random_outages(source)
    return Played(row, outages, horizon_of(outages)), Timeline(row, outages)


def windows(source, horizon, number):
    """Return random windows, short and long ones, and some without times."""
    found = []
    for turn in range(number):
        first = source.randint(0, horizon)
        found.append((first, source.choice((first, min(first + source.randint(0, 12), horizon),
                                            source.randint(first, horizon)))))
    return found


class States(Case):

    def test_the_examples(self):
        self.assertEqual([states_at(TL, 11), states_at(TL, 18), states_at(TL, 22)],
                         [[("closed", 2)], [("open", 17)], [("half", 1)]])

    def test_time_by_time(self):
        expected = ([("closed", 0)] * 10 + [("closed", 1), ("closed", 2)] + [("open", 12)] * 5 + [("open", 17)] * 5
                    + [("half", 1)] + [("closed", 0)] * 7)
        self.assertEqual([states_at(TL, time) for time in range(30)], [[state] for state in expected])

    def test_each_time_beside_requests_that_are_sent_one_by_one(self):
        source = seeded("states")
        for turn in range(300):
            played, t = played_and_told(source)
            for time, states in enumerate(played.states_by_time()):
                self.assertEqual(states_at(t, time), states)

    def test_before_the_first_request(self):
        t = Timeline(Row([(1, 5, 3), (2, 2, 2)], 10, phase=7), [(0, 27)])
        closed = [("closed", 0), ("closed", 0)]
        self.assertEqual([states_at(t, time) for time in (0, 6)], [closed, closed])
        self.assertEqual([states_at(t, time) for time in (7, 16)], [[("open", 7), ("closed", 1)]] * 2)
        self.assertEqual([states_at(t, time) for time in (17, 26)], [[("open", 17), ("open", 17)]] * 2)
        self.assertEqual(states_at(t, 27), [("half", 1), ("half", 1)])
        self.assertEqual(states_at(t, 37), [("half", 2), ("closed", 0)])
        self.assertEqual(states_at(t, 47), closed)

    def test_far_behind_and_without_outages(self):
        self.assertEqual(states_at(TL, FAR), [("closed", 0)])
        self.assertEqual(states_at(Timeline(Row([(1, 1, 1)], 1), []), 5), [("closed", 0)])
        self.assertEqual(states_at(Timeline(Row([], 1), [(0, 5)]), 3), [])

    def test_a_returned_list_belongs_to_the_caller(self):
        for time in (5, 11, 18, 22, 40):
            kept = states_at(TL, time)
            states_at(TL, time).clear()
            self.assertEqual(states_at(TL, time), kept)

    def test_values_that_are_no_time(self):
        for time in NOT_INTEGERS + (-1, -FAR):
            with self.subTest(time=time):
                self.assert_error(InvalidTime, {"time": time}, states_at, TL, time)
        self.assertEqual(states_at(time=0, timeline=TL), [("closed", 0)])


class Counts(Case):

    def test_the_examples(self):
        self.assertEqual([came(TL, 1, 10, 23), rejected(TL, 0, 10, 23), failed(TL, 10, 23), succeeded(TL, 10, 23)],
                         [5, 8, 12, 1])
        self.assert_error(InvalidIndex, {"index": 1}, rejected, TL, 1, 10, 23)

    def test_windows_beside_requests_that_are_sent_one_by_one(self):
        source = seeded("counts")
        for turn in range(250):
            played, t = played_and_told(source)
            breakers = len(t.base_row())
            for first, after in windows(source, played.horizon, 25):
                numbers = played.numbers(first, after)
                told = [played.told[number] for number in numbers]
                served = told.count(SERVED)
                self.assertEqual(succeeded(t, first, after), served)
                self.assertEqual(failed(t, first, after), len(numbers) - served)
                for breaker in range(breakers + 1):
                    self.assertEqual(came(t, breaker, first, after),
                                     len([number for number in numbers if played.comes(number, breaker)]))
                for breaker in range(breakers):
                    self.assertEqual(rejected(t, breaker, first, after), told.count(("rejected", breaker)))

    def test_windows_side_by_side_add_up(self):
        source = seeded("side by side")
        for turn in range(100):
            played, t = played_and_told(source)
            for first, after in windows(source, played.horizon, 8):
                border = source.randint(first, after)
                for breaker in range(len(t.base_row())):
                    for function in BY_BREAKER:
                        self.assertEqual(function(t, breaker, first, border) + function(t, breaker, border, after),
                                         function(t, breaker, first, after))
                for function in (failed, succeeded):
                    self.assertEqual(function(t, first, border) + function(t, border, after),
                                     function(t, first, after))

    def test_windows_without_times(self):
        for time in (0, 10, 12, 17, 22, FAR):
            self.assertEqual([came(TL, 0, time, time), came(TL, 1, time, time), rejected(TL, 0, time, time),
                              failed(TL, time, time), succeeded(TL, time, time), time_open(TL, 0, time, time)], [0] * 6)

    def test_far_windows(self):
        self.assertEqual([came(TL, 0, 0, FAR), came(TL, 1, 0, FAR), rejected(TL, 0, 0, FAR), failed(TL, 0, FAR),
                          succeeded(TL, 0, FAR), time_open(TL, 0, 0, FAR)], [FAR, FAR - 8, 8, 12, FAR - 12, 10])
        self.assertEqual([came(TL, 1, FAR, 2 * FAR), rejected(TL, 0, FAR, 2 * FAR), failed(TL, FAR, 2 * FAR),
                          succeeded(TL, FAR, 2 * FAR), time_open(TL, 0, FAR, 2 * FAR)], [FAR, 0, 0, FAR, 0])

    def test_rows_without_breakers(self):
        t = Timeline(Row([], 2, phase=1), [(4, 8)])
        self.assertEqual([came(t, 0, 0, 12), failed(t, 0, 12), succeeded(t, 0, 12)], [6, 2, 4])
        self.assert_error(InvalidIndex, {"index": 0}, rejected, t, 0, 0, 12)
        self.assert_error(InvalidIndex, {"index": 0}, time_open, t, 0, 0, 12)
        self.assert_error(InvalidIndex, {"index": 1}, came, t, 1, 0, 12)

    def test_by_name(self):
        for function in BY_BREAKER:
            self.assertEqual(function(after=23, first=10, breaker=0, timeline=TL), function(TL, 0, 10, 23))
        for function in (failed, succeeded):
            self.assertEqual(function(after=23, first=10, timeline=TL), function(TL, 10, 23))

    def test_values_that_are_no_breaker(self):
        for breaker in NOT_INTEGERS + (-1, 3, 10 ** 30):
            with self.subTest(breaker=breaker):
                for function in BY_BREAKER:
                    self.assert_error(InvalidIndex, {"index": breaker}, function, TWO, breaker, 0, 9)
                    self.assert_error(InvalidIndex, {"index": breaker}, function, TWO, breaker, -1, None)
        # The service has the number 2, but it rejects nothing, and it is not open.
        self.assertEqual(came(TWO, 2, 0, 30), 17)
        for function in (rejected, time_open):
            self.assert_error(InvalidIndex, {"index": 2}, function, TWO, 2, 0, 30)
            self.assert_error(InvalidIndex, {"index": 2}, function, TWO, 2, 5, 4)

    def assert_bound(self, part, first, after):
        for function in BY_BREAKER:
            self.assert_error(InvalidBound, {"part": part}, function, TL, 0, first, after)
        for function in (failed, succeeded):
            self.assert_error(InvalidBound, {"part": part}, function, TL, first, after)

    def test_values_that_are_no_window(self):
        for value in NOT_INTEGERS + (-1, -FAR):
            with self.subTest(value=value):
                self.assert_bound("first", value, 9)
                self.assert_bound("first", value, None)
                self.assert_bound("first", value, value)
                self.assert_bound("after", 5, value)
        for value in (True, False):
            self.assert_bound("after", 0, value)
        for first, after in ((1, 0), (5, 4), (10, 0), (FAR, FAR - 1)):
            self.assert_bound("after", first, after)


class Outcomes(Case):

    def test_the_examples(self):
        self.assertEqual([outcome(TL, 17), outcome(TL, 18)], [("failed",), ("rejected", 0)])

    def test_each_request_beside_requests_that_are_sent_one_by_one(self):
        source = seeded("outcomes")
        for turn in range(400):
            played, t = played_and_told(source)
            self.assertEqual([outcome(t, time) for time in played.times], played.told)

    def test_far_behind_and_by_name(self):
        self.assertEqual(outcome(TL, FAR), ("served",))
        self.assertEqual(outcome(time=12, timeline=TL), ("failed",))
        self.assertEqual(outcome(Timeline(Row([], 5), [(5, 6)]), 5), ("failed",))

    def test_values_that_are_not_the_time_of_a_request(self):
        t = Timeline(Row([(1, 5, 1)], 10, phase=3), [(0, 20)])
        for time in NOT_INTEGERS + (-1, -7, 0, 2, 4, 10, 12, 20, FAR):
            with self.subTest(time=time):
                self.assert_error(InvalidTime, {"time": time}, outcome, t, time)
        self.assertEqual([outcome(t, time) for time in (3, 13, 23)], [("failed",), ("failed",), ("served",)])
        # True and 1 are equal, but only 1 is a time.
        self.assertEqual(outcome(TL, 1), ("served",))
        self.assert_error(InvalidTime, {"time": True}, outcome, TL, True)


class TimeOpen(Case):

    def test_the_example(self):
        self.assertEqual(time_open(TL, 0, 0, 100), 10)

    def test_windows_beside_the_states_of_requests_that_are_sent_one_by_one(self):
        source = seeded("open")
        for turn in range(250):
            played, t = played_and_told(source)
            states = played.states_by_time()
            for first, after in windows(source, played.horizon, 20):
                for breaker in range(len(t.base_row())):
                    expected = len([time for time in range(first, after) if states[time][breaker][0] == "open"])
                    self.assertEqual(time_open(t, breaker, first, after), expected)

    def test_each_time_by_the_states(self):
        for t in (TL, TWO, Timeline(Row([(2, 7, 2), (1, 3, 4)], 5, phase=3), [(9, 30), (40, 41), (55, 90)])):
            for time in range(120):
                for breaker, (kind, number) in enumerate(states_at(t, time)):
                    self.assertEqual(time_open(t, breaker, time, time + 1), int(kind == "open"))

    def test_a_breaker_that_does_not_open(self):
        t = Timeline(Row([(50, 3, 1), (1, 4, 1)], 1), [(10, 25)])
        self.assertEqual([time_open(t, 0, 0, FAR), time_open(t, 1, 0, FAR)], [0, 16])


class Places(Case):

    def test_where_all_is_defined(self):
        for name in ("states_at", "came", "rejected", "failed", "succeeded", "outcome", "time_open"):
            self.assertEqual(getattr(module, name).__module__, "breakerrow.states")

    def test_the_same_call_returns_the_same_again_also_after_errors(self):
        calls = [lambda function=function: function(TL, 0, 3, 40) for function in BY_BREAKER]
        calls += [lambda: failed(TL, 3, 40), lambda: succeeded(TL, 3, 40), lambda: states_at(TL, 19)]
        told = [call() for call in calls]
        for function in BY_BREAKER:
            self.assertRaises(InvalidIndex, function, TL, [], 3, 40)
            self.assertRaises(InvalidBound, function, TL, 0, [], 40)
        self.assertEqual([call() for call in calls], told)
