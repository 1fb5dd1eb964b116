"""Logs (point 36), explanations (37), conflicts (38) and forecasts (39)."""

from breakerrow import explained as module
from breakerrow.errors import InvalidLog, InvalidRow, InvalidTime
from breakerrow.explained import explanations, first_conflict, forecast, log_of
from breakerrow.rows import Row
from tests.played import send
from tests.support import NOT_INTEGERS, Case, seeded

MOST = 10 ** 30
FAR = 10 ** 499
LOG = [(0, True), (1, True), (3, False), (6, True), (8, False), (9, False)]
NO_LISTS = (None, True, 0, 5, "", "ab", b"", (), (1,), ((0, True),), {}, {0: True}, set(), object(), iter([]), range(3),
            Row([], 1))
NO_BREAKERS = (None, True, 5, "", "abc", b"abc", [], {}, set(), (), object(), [1, 1, 1], (1, 1), (1, 1, 1, 1),
               (0, 1, 1), (1, 0, 1), (1, 1, 0), (-1, 1, 1), (True, 1, 1), (1, True, 1), (1, 1, True),
               (10 ** 12 + 1, 1, 1), (1, MOST + 1, 1), (1, 1, 10 ** 12 + 1), ([], 1, 1), (1, {}, 1), (1, 1, None))


def logged(breaker, times):
    """Send failing requests to one breaker, one by one, by the rules of point 6."""
    log = []
    states = [("closed", 0)]
    for time in times:
        told, states = send([breaker], states, time, False)
        log.append((time, told == ("failed",)))
    return log


def random_times(source, most=9, longest=9):
    """Return random ascending times."""
    times = []
    time = source.choice((0, 0, 1, source.randint(0, longest)))
    for place in range(source.randint(0, most)):
        times.append(time)
        time += source.randint(1, source.choice((1, 2, longest)))
    return times


def random_log(source):
    """Return a random log: of a breaker, or of one with an entry turned, or of nothing at all."""
    times = random_times(source)
    kind = source.randint(0, 5)
    if kind == 0:
        return [(time, source.random() < 0.6) for time in times]
    log = logged((source.randint(1, 5), source.randint(1, 14), 1), times)
    if kind == 1:
        log = logged((len(times) + source.randint(0, 1) or 1, 5, 1), times)
    if kind == 2 and log:
        place = source.randint(0, len(log) - 1)
        log[place] = (log[place][0], not log[place][1])
    return log


def span_of(log):
    """Return a wait that is beyond all times of a log."""
    return log[-1][0] - log[0][0] + 2 if log else 2


def explaining(log, more=2):
    """List all breakers that explain a log, tried one by one, up to waits and failures beyond all that matters."""
    times = [time for time, passed in log]
    return [(failures, wait) for failures in range(1, len(log) + 1 + more) for wait in range(1, span_of(log) + 1)
            if logged((failures, wait, 1), times) == log]


def ranges_of(log):
    """Return what `explanations` should tell, from all breakers that are tried."""
    found = []
    beyond = span_of(log)
    for failures in range(1, max(1, len(log)) + 1):
        waits = [wait for number, wait in explaining(log) if number == failures]
        if waits:
            assert waits == list(range(waits[0], waits[-1] + 1))
            found.append((failures, waits[0], MOST if waits[-1] == beyond else waits[-1]))
    return found


def conflict_of(log):
    """Return the length of the longest beginning of a log that a breaker explains, None if it is the whole log."""
    for length in range(1, len(log) + 1):
        if not explaining(log[:length]):
            return length - 1
    return None


class Logs(Case):

    def test_the_example(self):
        self.assertEqual(log_of((2, 4, 1), [0, 1, 3, 6, 8, 9]), LOG)

    def test_beside_requests_that_are_sent_one_by_one(self):
        source = seeded("logs")
        for turn in range(1500):
            breaker = (source.randint(1, 4), source.randint(1, 12), source.randint(1, 3))
            times = random_times(source, 25)
            kept = list(times)
            log = log_of(breaker, times)
            self.assertEqual(log, logged(breaker, times))
            self.assertEqual(times, kept)
            for time, passed in log:
                self.assertIs(type(passed), bool)

    def test_at_the_wait_and_beside_it(self):
        self.assertEqual(log_of((1, 5, 1), [0, 4, 5, 9, 10]),
                         [(0, True), (4, False), (5, True), (9, False), (10, True)])
        self.assertEqual(log_of((1, 5, 1), [0, 6, 10, 11]), [(0, True), (6, True), (10, False), (11, True)])
        self.assertEqual(log_of((3, 2, 1), [7, 9, 20, 21, 22]),
                         [(7, True), (9, True), (20, True), (21, False), (22, True)])

    def test_the_successes_do_not_matter(self):
        for successes in (1, 2, 10 ** 12):
            self.assertEqual(log_of((2, 4, successes), [0, 1, 3, 6, 8, 9]), LOG)

    def test_great_times(self):
        times = [FAR, FAR + 1, FAR + MOST, FAR + MOST + 1, FAR + 2 * MOST, FAR + 2 * MOST + 1]
        self.assertEqual([passed for time, passed in log_of((2, MOST, 1), times)],
                         [True, True, False, True, False, True])
        self.assertEqual([passed for time, passed in log_of((10 ** 12, 1, 1), times)], [True] * 6)
        small = [0, 1, 2, 3, 5, 8, 13, 21]
        great = [time * 10 ** 29 for time in small]
        self.assertEqual([passed for time, passed in log_of((2, 4 * 10 ** 29, 1), great)],
                         [passed for time, passed in logged((2, 4, 1), small)])

    def test_no_times(self):
        self.assertEqual(log_of((1, 1, 1), []), [])

    def test_a_thousand_times_and_one_more(self):
        for breaker in ((2, 7, 1), (1000, 1, 1), (999, 1000, 1)):
            times = list(range(0, 3000, 3))
            self.assertEqual(log_of(breaker, times), logged(breaker, times))
            self.assert_error(InvalidLog, {"at": -1}, log_of, breaker, times + [3000])
            self.assert_error(InvalidLog, {"at": -1}, log_of, breaker, times + [None])

    def test_values_that_are_no_breaker(self):
        for breaker in NO_BREAKERS:
            with self.subTest(breaker=breaker):
                # The breaker is checked first, whatever the times are.
                for times in ([0, 1], [], [None], None, [1, 0]):
                    self.assert_error(InvalidRow, {"part": "breaker", "at": -1}, log_of, breaker, times)

    def test_values_that_are_no_lists_of_times(self):
        for times in NO_LISTS:
            with self.subTest(times=times):
                self.assert_error(InvalidLog, {"at": -1}, log_of, (1, 1, 1), times)

    def test_the_first_wrong_time(self):
        for value in NOT_INTEGERS + (-1, -FAR):
            with self.subTest(value=value):
                self.assert_error(InvalidLog, {"at": 0}, log_of, (1, 1, 1), [value])
                self.assert_error(InvalidLog, {"at": 2}, log_of, (1, 1, 1), [0, 1, value, 1, None])
        self.assert_error(InvalidLog, {"at": 1}, log_of, (1, 1, 1), [5, 5])
        self.assert_error(InvalidLog, {"at": 2}, log_of, (1, 1, 1), [5, 7, 6, 3])
        self.assert_error(InvalidLog, {"at": 999}, log_of, (1, 1, 1), list(range(999)) + [998])

    def test_by_name_and_as_a_list_of_the_caller(self):
        times = [0, 1, 3, 6, 8, 9]
        log = log_of(times=times, breaker=(2, 4, 1))
        log.clear()
        self.assertEqual((log_of((2, 4, 1), times), times), (LOG, [0, 1, 3, 6, 8, 9]))


class Explanations(Case):

    def test_the_example(self):
        self.assertEqual(explanations(LOG), [(2, 4, 5)])
        self.assertEqual(explanations(log=LOG), [(2, 4, 5)])

    def test_beside_all_breakers(self):
        source = seeded("explanations")
        numbers = set()
        for turn in range(500):
            log = random_log(source)
            kept = list(log)
            self.assertEqual(explanations(log), ranges_of(log))
            self.assertEqual(log, kept)
            numbers.add(min(3, len(explanations(log))))
        self.assertEqual(numbers, {0, 1, 2, 3})

    def test_logs_of_breakers_are_explained_by_these(self):
        source = seeded("own logs")
        for turn in range(500):
            failures, wait = source.randint(1, 9), source.randint(1, 30)
            log = log_of((failures, wait, 2), random_times(source, 40, 12))
            ranges = {number: (low, high) for number, low, high in explanations(log)}
            if all(passed for time, passed in log):
                failures = min(failures, max(1, len(log)))
            low, high = ranges[failures]
            self.assertTrue(low <= wait <= high)
            for number, (low, high) in ranges.items():
                times = [time for time, passed in log]
                for tried in {low, high, (low + high) // 2}:
                    self.assertEqual(logged((number, tried, 1), times), log)
                for tried in {low - 1, high + 1} - {0, MOST + 1}:
                    self.assertNotEqual(logged((number, tried, 1), times), log)

    def test_without_a_rejected_request(self):
        self.assertEqual(explanations([]), [(1, 1, MOST)])
        self.assertEqual(explanations([(7, True)]), [(1, 1, MOST)])
        self.assertEqual(explanations([(7, True), (10, True)]), [(1, 1, 3), (2, 1, MOST)])
        self.assertEqual(explanations([(0, True), (9, True), (11, True), (16, True)]),
                         [(1, 1, 2), (2, 1, 2), (3, 1, 5), (4, 1, MOST)])

    def test_that_no_breaker_explains(self):
        for log in ([(0, False)], [(5, False), (6, True)], [(0, True), (1, False), (2, False), (3, True), (6, False)],
                    [(0, True), (3, True), (4, True), (8, False), (9, True), (10, True)]):
            with self.subTest(log=log):
                self.assertEqual(explanations(log), [])

    def test_only_the_last_failures_may_explain(self):
        # A wait with which the breaker rejects the last request is too long for the passes before.
        log = [(0, True), (2, True), (3, True), (9, True), (12, False)]
        self.assertEqual(explanations(log), [(3, 4, 6), (4, 4, MOST)])
        self.assertEqual(explanations(log + [(13, True)]), [(3, 4, 4), (4, 4, 4)])

    def test_at_the_greatest_wait(self):
        self.assertEqual(explanations([(0, True), (MOST - 1, False)]), [(1, MOST, MOST)])
        self.assertEqual(explanations([(0, True), (MOST, False)]), [])
        self.assertEqual(explanations([(0, True), (MOST - 2, False), (MOST - 1, True)]), [(1, MOST - 1, MOST - 1)])
        self.assertEqual(explanations([(0, True), (MOST - 1, False), (FAR, True)]), [(1, MOST, MOST)])
        self.assertEqual(explanations([(0, True), (MOST - 1, True), (FAR, True)]),
                         [(1, 1, MOST - 1), (2, 1, MOST), (3, 1, MOST)])
        self.assertEqual(explanations([(FAR, True), (FAR + 5, True), (FAR + 8, False)]), [(1, 4, 5), (2, 4, MOST)])

    def test_great_times_beside_small_ones(self):
        source = seeded("great logs")
        for turn in range(200):
            log = random_log(source)
            scale, shift = 10 ** 28, FAR
            great = [(time * scale + shift, passed) for time, passed in log]
            expected = [(failures, (low - 1) * scale + 1, MOST if high == MOST else high * scale)
                        for failures, low, high in explanations(log)]
            if span_of(log) < 90:
                self.assertEqual(explanations(great), expected)
                self.assertEqual(first_conflict(great), first_conflict(log))

    def test_logs_of_a_thousand_entries(self):
        times = list(range(0, 7000, 7))
        self.assertEqual(explanations([(time, True) for time in times]),
                         [(failures, 1, 7) for failures in range(1, 1000)] + [(1000, 1, MOST)])
        self.assertEqual(explanations(log_of((3, 30, 1), times)), [(3, 29, 35)])
        log = [(time, True) for time in times[:-1]] + [(times[-1], False)]
        self.assertEqual(explanations(log), [(999, 8, MOST)])
        log = [(time, True) for time in times[:500]] + [(3500 + place, False) for place in range(500)]
        self.assertEqual(explanations(log), [(500, 507, MOST)])
        self.assertEqual(forecast(log, 4000), "either")
        for function in (explanations, first_conflict):
            self.assert_error(InvalidLog, {"at": -1}, function, [(time, True) for time in range(1001)])

    def test_a_returned_list_belongs_to_the_caller(self):
        for log in ([], LOG, [(0, True), (5, True)], [(0, False)]):
            kept = explanations(log)
            explanations(log).append(7)
            self.assertEqual(explanations(log), kept)


class Conflicts(Case):

    def test_the_example(self):
        self.assertEqual(first_conflict(LOG + [(10, False), (11, False)]), 7)
        self.assertEqual(first_conflict(log=LOG + [(10, False), (11, False)]), 7)

    def test_beside_all_breakers(self):
        source = seeded("conflicts")
        for turn in range(400):
            log = random_log(source)
            self.assertEqual(first_conflict(log), conflict_of(log))

    def test_with_one_entry_turned(self):
        source = seeded("turned")
        met = {}
        for turn in range(150):
            log = log_of((source.randint(1, 3), source.randint(1, 9), 1), random_times(source, 10))
            self.assertIsNone(first_conflict(log))
            for place, (time, passed) in enumerate(log):
                turned = log[:place] + [(time, not passed)] + log[place + 1:]
                conflict = first_conflict(turned)
                self.assertEqual(conflict, conflict_of(turned))
                self.assertEqual(conflict is None, explanations(turned) != [])
                kind = conflict is None or (conflict > place) - (conflict < place)
                met[kind] = met.get(kind, 0) + 1
        self.assertEqual(sorted(met), [0, 1])
        self.assertTrue(min(met.values()) > 10)

    def test_long_logs(self):
        source = seeded("long conflicts")
        for turn in range(20):
            log = log_of((source.randint(1, 400), source.randint(2, 90), 1), random_times(source, 1000, 25))
            if log:
                place = source.randint(0, len(log) - 1)
                log[place] = (log[place][0], not log[place][1])
            conflict = first_conflict(log)
            self.assertEqual(conflict is None, explanations(log) != [])
            if conflict is not None:
                self.assertEqual(explanations(log[:conflict + 1]), [])
                self.assertNotEqual(explanations(log[:conflict]), [])

    def test_without_one(self):
        for log in ([], LOG, [(3, True)], [(3, True), (4, True)], [(0, True), (MOST - 1, False)]):
            self.assertIsNone(first_conflict(log))

    def test_at_the_first_entry_and_at_the_greatest_wait(self):
        self.assertEqual(first_conflict([(0, False)]), 0)
        self.assertEqual(first_conflict([(0, False), (1, True), (2, False)]), 0)
        self.assertEqual(first_conflict([(0, True), (MOST, False)]), 1)
        self.assertEqual(first_conflict([(0, True), (1, True), (MOST, False), (MOST + 1, False)]), 3)


class Forecasts(Case):

    def test_the_examples(self):
        self.assertEqual([forecast(LOG, 10), forecast(LOG, 11)], ["either", "pass"])
        self.assertEqual(forecast(time=10, log=LOG), "either")

    def test_beside_all_breakers(self):
        source = seeded("forecasts")
        met = {}
        for turn in range(400):
            log = random_log(source)
            breakers = explaining(log)
            latest = log[-1][0] if log else -1
            for time in {latest + 1, latest + source.randint(1, 5), latest + source.randint(1, 30)}:
                if not breakers:
                    self.assert_error(InvalidLog, {"at": conflict_of(log)}, forecast, log, time)
                    continue
                # Longer waits than those that are tried may reject the request, if they explain the log.
                beyond = [(failures, MOST) for failures, wait in breakers if wait == span_of(log)]
                times = [at for at, passed in log] + [time]
                told = {logged((failures, wait, 1), times)[-1][1] for failures, wait in breakers + beyond}
                expected = "either" if len(told) == 2 else "pass" if told == {True} else "reject"
                self.assertEqual(forecast(log, time), expected)
                met[expected] = met.get(expected, 0) + 1
        self.assertEqual(sorted(met), ["either", "pass", "reject"])
        self.assertTrue(min(met.values()) > 20)

    def test_each_answer_at_its_borders(self):
        # The waits are 4 and 5, and the breaker has opened at 6.
        log = LOG[:5]
        self.assertEqual(explanations(log), [(2, 3, 5)])
        self.assertEqual([forecast(log, time) for time in range(9, 13)], ["either", "either", "pass", "pass"])
        log = [(0, True), (1, True), (6, False), (8, True)]
        self.assertEqual(explanations(log), [(2, 6, 7)])
        self.assertEqual([forecast(log, time) for time in (9, 13, 14, 15, FAR)],
                         ["reject", "reject", "either", "pass", "pass"])

    def test_without_a_rejected_request(self):
        self.assertEqual([forecast([], time) for time in (0, 5, FAR)], ["pass"] * 3)
        for time in (8, 20, MOST + 6):
            self.assertEqual(forecast([(7, True)], time), "either")
        for time in (MOST + 7, MOST + 8, FAR):
            self.assertEqual(forecast([(7, True)], time), "pass")
        self.assertEqual(forecast([(0, True), (3, True)], 4), "either")

    def test_great_times(self):
        log = [(FAR, True), (FAR + MOST - 1, False)]
        self.assertEqual([forecast(log, FAR + MOST), forecast(log, FAR + MOST + 1)], ["pass", "pass"])
        log = [(FAR, True), (FAR + MOST - 3, False)]
        self.assertEqual([forecast(log, FAR + MOST + more) for more in (-2, -1, 0)], ["either", "either", "pass"])
        self.assertEqual(forecast([(0, True), (10 ** 20, False)], 10 ** 20 + 1), "either")
        self.assertEqual(forecast([(0, True), (10 ** 20, False)], FAR), "pass")

    def test_logs_of_a_thousand_entries(self):
        log = log_of((3, 30, 1), list(range(0, 7000, 7)))
        self.assertEqual([passed for time, passed in log[-4:]], [False, True, False, False])
        opened = log[-3][0]
        self.assertEqual([forecast(log, opened + gap) for gap in (15, 28, 29, 34, 35)],
                         ["reject", "reject", "either", "either", "pass"])

    def test_values_that_are_no_time(self):
        for time in NOT_INTEGERS + (-1, 0, 8, 9, -FAR):
            with self.subTest(time=time):
                self.assert_error(InvalidTime, {"time": time}, forecast, LOG, time)
        for time in NOT_INTEGERS + (-1, -FAR):
            self.assert_error(InvalidTime, {"time": time}, forecast, [], time)

    def test_the_order_of_the_errors(self):
        wrong = LOG + [(10, False), (11, False)]
        self.assert_error(InvalidLog, {"at": 7}, forecast, wrong, 12)
        self.assert_error(InvalidTime, {"time": 11}, forecast, wrong, 11)
        self.assert_error(InvalidTime, {"time": None}, forecast, [(0, False)], None)
        self.assert_error(InvalidLog, {"at": 0}, forecast, [(0, False)], 1)
        self.assert_error(InvalidLog, {"at": 1}, forecast, [(0, True), (0, True)], None)
        self.assert_error(InvalidLog, {"at": -1}, forecast, None, None)


class WrongLogs(Case):

    def functions(self):
        return (explanations, first_conflict, lambda log: forecast(log, 50), lambda log: forecast(log, None))

    def test_values_that_are_no_lists(self):
        for log in NO_LISTS + ([(time, True) for time in range(1001)], [None] * 1001):
            for function in self.functions():
                self.assert_error(InvalidLog, {"at": -1}, function, log)

    def test_the_first_wrong_item(self):
        items = NOT_INTEGERS + (5, [5, True], (5,), (5, True, True), (5, 1), (5, 0), (5, None), (5, "True"), (5, []),
                                (True, True), (None, True), ("5", True), ([], True), (-1, True), (-FAR, False),
                                ((5, True),))
        for item in items:
            with self.subTest(item=item):
                for function in self.functions():
                    self.assert_error(InvalidLog, {"at": 0}, function, [item])
                    self.assert_error(InvalidLog, {"at": 2}, function, [(0, True), (1, False), item, None])

    def test_times_that_do_not_ascend(self):
        for function in self.functions():
            self.assert_error(InvalidLog, {"at": 1}, function, [(4, True), (4, True), (4, True)])
            self.assert_error(InvalidLog, {"at": 2}, function, [(4, True), (6, False), (5, True)])
            # The form comes first: no breaker explains the first entry.
            self.assert_error(InvalidLog, {"at": 3}, function, [(0, False), (1, True), (2, False), (2, False)])
            self.assert_error(InvalidLog, {"at": 999}, function, [(time, True) for time in range(999)] + [(998, True)])

    def test_a_log_is_not_modified(self):
        log = list(LOG)
        for function in (explanations, first_conflict, lambda log: forecast(log, 50)):
            function(log)
            self.assertEqual(log, LOG)

    def test_functions_are_defined_in_their_file(self):
        for name in ("log_of", "explanations", "first_conflict", "forecast", "waits_of"):
            self.assertEqual(getattr(module, name).__module__, "breakerrow.explained")
