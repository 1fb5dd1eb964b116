"""Delays for all ends of a last outage (points 26 to 30)."""

import math
from fractions import Fraction

from breakerrow import delays as module
from breakerrow.delays import Delays, count_within, first_above, greatest_delay, mean_delay, settled, total_delay
from breakerrow.errors import InvalidBound, InvalidOutages, InvalidTime
from breakerrow.outages import Timeline, first_success
from breakerrow.rows import Row, row_period
from tests.played import FAILED, Played, SERVED, horizon_of, random_outages, random_row
from tests.support import NOT_INTEGERS, Case, seeded

MOST = 10 ** 30
FAR = 10 ** 499
ROW = Row([(2, 3, 1), (1, 4, 1)], 1)
D = Delays(ROW, [], 10)
FUNCTIONS = (("greatest_delay", greatest_delay), ("total_delay", total_delay), ("mean_delay", mean_delay))


def random_parts(source):
    """Return a random row, outages, and a begin of a last outage, often close to the one before."""
    row, outages = random_row(source), random_outages(source, 4)
    begin = outages[-1][1] + source.choice((1, 1, 2, 4, 9, 30)) if outages else source.choice((0, 0, 1, 3, 10, 40))
    return row, outages, begin


def listed(row, outages, begin, number):
    """List the delays of the first ends, each from requests that are sent one by one."""
    found = []
    for end in range(begin + 1, begin + 1 + number):
        played = Played(row, outages + [(begin, end)], horizon_of(outages + [(begin, end)], 60))
        found.append(min(time for time, told in zip(played.times, played.told) if told == SERVED and time >= end) - end)
    return found


class EachEnd(Case):

    def test_the_examples(self):
        self.assertEqual([D[11], D[25]], [3, 1])
        self.assertEqual([D[end] for end in range(11, 28)], [3, 2, 1, 0, 5, 4, 3, 2, 1, 0, 5, 4, 3, 2, 1, 0, 5])
        self.assert_error(InvalidTime, {"time": 10}, lambda: D[10])

    def test_beside_requests_that_are_sent_one_by_one(self):
        source = seeded("delays")
        for turn in range(60):
            row, outages, begin = random_parts(source)
            d = Delays(row, outages, begin)
            self.assertEqual([d[end] for end in range(begin + 1, begin + 41)], listed(row, outages, begin, 40))

    def test_beside_timelines_with_each_end(self):
        source = seeded("delays of timelines")
        for turn in range(300):
            row, outages, begin = random_parts(source)
            d = Delays(row, outages, begin)
            for end in range(begin + 1, begin + 60):
                t = Timeline(row, outages + [(begin, end)])
                self.assertEqual(d[end], first_success(t, end) - end)

    def test_a_spell_that_is_still_going_on(self):
        # The breaker has opened at 0 and passes a request at 20, 40, 60 ..
        d = Delays(Row([(1, 20, 1)], 1), [(0, 5)], 7)
        self.assertEqual([d[end] for end in (8, 19, 20, 21, 40, 41)], [12, 1, 0, 19, 0, 19])
        d = Delays(Row([(1, 20, 1)], 1), [(0, 5)], 20)
        self.assertEqual([d[end] for end in (21, 40, 41)], [19, 0, 19])
        d = Delays(Row([(1, 20, 1)], 1), [(0, 5)], 21)
        self.assertEqual([d[end] for end in (22, 40, 41)], [19, 1, 0])

    def test_half_open_breakers_at_the_begin(self):
        # Closed, the breaker needs three failures; half open, with successes at 4 and 5, it needs one.
        row = Row([(3, 4, 3)], 1)
        self.assertEqual([Delays(row, [], 6)[end] for end in (7, 8, 9, 10, 12, 13)], [0, 0, 3, 2, 0, 3])
        self.assertEqual([Delays(row, [(0, 5)], 8)[end] for end in (9, 10, 12, 13)], [3, 2, 0, 3])
        self.assertEqual([Delays(row, [(0, 5)], 9)[end] for end in (10, 11, 12, 13)], [0, 0, 3, 2])

    def test_far_ends_at_once(self):
        for end in (MOST, MOST + 1, MOST + 5, FAR, FAR + 1):
            self.assertEqual(D[end], (14 - end) % 6)
        d = Delays(ROW, [], FAR)
        self.assertEqual([d[FAR + 1], d[FAR + 15]], [3, 1])
        d = Delays(Row([(1, MOST, 1)], 1), [], 5)
        self.assertEqual([d[6], d[MOST + 5], d[MOST + 6], d[FAR]], [MOST - 1, 0, MOST - 1, (5 - FAR) % MOST])

    def test_values_that_are_no_end(self):
        for end in NOT_INTEGERS + (10, 9, 0, -1, -11, slice(11, 12)):
            with self.subTest(end=end):
                self.assert_error(InvalidTime, {"time": end}, lambda: D[end])
        self.assert_error(InvalidTime, {"time": True}, lambda: Delays(ROW, [], 0)[True])
        self.assertEqual(Delays(ROW, [], 0)[1], 3)


class Creation(Case):

    def test_the_outages_are_checked_first(self):
        for outages, at in ((None, -1), ([(0, 1)] * 51, -1), ([(0, 1), (1, 2)], 1), ([(5, 5)], 0), ([[1, 2]], 0),
                            (((0, 1),), -1), ([(0, MOST + 1)], 0), ([(0, 4), (True, 9)], 1)):
            for begin in (3, None, -1):
                self.assert_error(InvalidOutages, {"at": at}, Delays, ROW, outages, begin)

    def test_the_begin(self):
        for begin in NOT_INTEGERS + (-1, -MOST):
            with self.subTest(begin=begin):
                self.assert_error(InvalidBound, {"part": "begin"}, Delays, ROW, [], begin)
                self.assert_error(InvalidBound, {"part": "begin"}, Delays, ROW, [(3, 8)], begin)
        for begin in (0, 2, 3, 7, 8):
            self.assert_error(InvalidBound, {"part": "begin"}, Delays, ROW, [(0, 1), (3, 8)], begin)
        # The spell of the outages before still goes on: requests reach the service at 0, 4, 10, 16 ..
        self.assertEqual([Delays(ROW, [(0, 1), (3, 8)], 9)[end] for end in (10, 11, 16)], [0, 5, 0])
        self.assertEqual(Delays(begin=0, outages=[], row=ROW)[1], 3)
        self.assertEqual(Delays(ROW, [(0, MOST)], FAR)[FAR + 1], 3)

    def test_fifty_outages_and_the_last_one(self):
        outages = [(20 * place, 20 * place + 9) for place in range(50)]
        self.assertEqual(Delays(ROW, outages, 1000)[1001], 3)

    def test_a_list_that_was_passed_is_neither_kept_nor_modified(self):
        outages = [(0, 5)]
        d = Delays(ROW, outages, 20)
        self.assertEqual(outages, [(0, 5)])
        kept = [d[end] for end in range(21, 50)]
        outages[0] = (0, 19)
        outages.append(None)
        self.assertEqual([d[end] for end in range(21, 50)], kept)

    def test_where_all_is_defined(self):
        self.assertIn("__getitem__", vars(Delays))
        for name in ("Delays", "greatest_delay", "first_above", "total_delay", "mean_delay", "count_within", "settled"):
            self.assertEqual(getattr(module, name).__module__, "breakerrow.delays")

    def test_delays_cannot_be_iterated_over(self):
        self.assertRaises(TypeError, lambda: list(D))


class Windows(Case):

    def test_the_examples(self):
        self.assertEqual([greatest_delay(D, 11, 30), first_above(D, 3, 11)], [(5, 15), 15])
        self.assertEqual([total_delay(D, 11, 20), mean_delay(D, 11, 20), count_within(D, 1, 11, 20)],
                         [21, (21, 10), 4])

    def test_beside_the_delay_of_each_end(self):
        source = seeded("windows of ends")
        for turn in range(400):
            row, outages, begin = random_parts(source)
            d = Delays(row, outages, begin)
            for number in range(8):
                first = begin + source.randint(1, source.choice((1, 5, 60)))
                last = first + source.choice((0, source.randint(0, 9), source.randint(0, 70)))
                found = [d[end] for end in range(first, last + 1)]
                self.assertEqual(greatest_delay(d, first, last), (max(found), first + found.index(max(found))))
                self.assertEqual(total_delay(d, first, last), sum(found))
                mean = Fraction(sum(found), len(found))
                self.assertEqual(mean_delay(d, first, last), (mean.numerator, mean.denominator))
                for most in range(max(found) + 2):
                    self.assertEqual(count_within(d, most, first, last), len([one for one in found if one <= most]))

    def test_the_first_above(self):
        source = seeded("first above")
        nones = 0
        for turn in range(400):
            row, outages, begin = random_parts(source)
            d = Delays(row, outages, begin)
            # Behind so many ends, the distances of the passes are equal.
            ends = range(begin + 1, begin + 150)
            found = [d[end] for end in ends]
            for most in range(max(found) + 2):
                first = source.choice(ends[:80])
                above = [end for end in ends if end >= first and found[end - begin - 1] > most]
                self.assertEqual(first_above(d, most, first), above[0] if above else None)
                nones += not above
        self.assertGreater(nones, 100)

    def test_where_no_delay_is_above(self):
        self.assertEqual([first_above(D, most, 11) for most in (0, 2, 3, 4, 5, 6, FAR)],
                         [11, 11, 15, 15, None, None, None])
        self.assertEqual([first_above(D, 4, first) for first in (15, 16, 20, 21, 22, FAR)],
                         [15, 21, 21, 21, 27, FAR + (15 - FAR) % 6])
        # Only the first delays are greater than 0.
        d = Delays(Row([], 1, phase=50), [], 3)
        self.assertEqual([first_above(d, 0, first) for first in (4, 49, 50, 51)], [4, 49, None, None])
        self.assertEqual([greatest_delay(d, 4, FAR), greatest_delay(d, 50, FAR)], [(46, 4), (0, 50)])
        self.assertEqual([total_delay(d, 4, FAR), total_delay(d, 50, FAR)], [46 * 47 // 2, 0])
        self.assertEqual([mean_delay(d, 50, FAR), mean_delay(d, 49, 50), mean_delay(d, 48, 49)],
                         [(0, 1), (1, 2), (3, 2)])
        self.assertEqual(count_within(d, 3, 4, FAR), FAR - 46)

    def test_a_window_of_one_end(self):
        for end in range(11, 40):
            self.assertEqual([greatest_delay(D, end, end), total_delay(D, end, end), mean_delay(D, end, end)],
                             [(D[end], end), D[end], (D[end], 1)])
            self.assertEqual([count_within(D, most, end, end) for most in (D[end], D[end] - 1) if most >= 0],
                             [1, 0][:1 + (D[end] > 0)])

    def test_huge_windows_at_once(self):
        # From 15 on, each six ends have the delays 5, 4, 3, 2, 1, 0.
        last = 14 + 6 * FAR
        self.assertEqual(greatest_delay(D, 15, last), (5, 15))
        self.assertEqual(total_delay(D, 15, last), 15 * FAR)
        self.assertEqual(total_delay(D, 11, last + 2), 15 * FAR + 6 + 9)
        self.assertEqual(mean_delay(D, 15, last), (5, 2))
        self.assertEqual(count_within(D, 1, 15, last), 2 * FAR)
        self.assertEqual(count_within(D, 5, 15, last), 6 * FAR)
        self.assertEqual(count_within(D, 0, 11, last + 6), FAR + 2)

    def test_rows_that_are_scaled(self):
        source = seeded("scaled delays")
        scale = 10 ** 28 + 1
        for turn in range(150):
            row, outages, begin = random_parts(source)
            far = Row([(failures, wait * scale, successes) for failures, wait, successes in row.breaker_list()],
                      row.step_length() * scale, phase=row.phase_time() * scale)
            if outages and outages[-1][1] * scale > MOST:
                outages = []
            d = Delays(row, outages, begin)
            other = Delays(far, [(first * scale, end * scale) for first, end in outages], begin * scale)
            first = begin + source.randint(1, 30)
            last = first + source.randint(0, 80)
            # The ends of one time before the scaling have its delay, scaled, and scale - 1 to 0 more.
            low, high, number = (first - 1) * scale + 1, last * scale, last - first + 1
            self.assertEqual([other[end * scale] for end in range(first, last)],
                             [d[end] * scale for end in range(first, last)])
            greatest, end = greatest_delay(d, first, last)
            self.assertEqual(greatest_delay(other, low, high), ((greatest + 1) * scale - 1, (end - 1) * scale + 1))
            total = total_delay(d, first, last) * scale ** 2 + number * scale * (scale - 1) // 2
            self.assertEqual(total_delay(other, low, high), total)
            divisor = math.gcd(total, number * scale)
            self.assertEqual(mean_delay(other, low, high), (total // divisor, number * scale // divisor))
            self.assertEqual(count_within(other, 4 * scale - 1, low, high), count_within(d, 3, first, last) * scale)
            above = first_above(d, 3, first)
            self.assertEqual(first_above(other, 4 * scale - 1, low), above and (above - 1) * scale + 1)
            time, period = settled(d)
            self.assertEqual(settled(other), (time * scale, period * scale))

    def test_by_name(self):
        self.assertEqual([greatest_delay(last=30, first=11, delays=D), first_above(first=11, most=3, delays=D),
                          total_delay(last=20, first=11, delays=D), mean_delay(last=20, first=11, delays=D),
                          count_within(last=20, first=11, most=1, delays=D), settled(delays=D)],
                         [(5, 15), 15, 21, (21, 10), 4, (14, 6)])

    def test_the_same_again_also_after_errors(self):
        told = [function(D, 12, 77) for name, function in FUNCTIONS]
        for name, function in FUNCTIONS:
            self.assertRaises(InvalidBound, function, D, 12, [])
        self.assertEqual([function(D, 12, 77) for name, function in FUNCTIONS], told)


class Errors(Case):

    def test_first(self):
        for first in NOT_INTEGERS + (10, 9, 0, -1):
            with self.subTest(first=first):
                for name, function in FUNCTIONS:
                    self.assert_error(InvalidBound, {"part": "first"}, function, D, first, 50)
                    self.assert_error(InvalidBound, {"part": "first"}, function, D, first, None)
                self.assert_error(InvalidBound, {"part": "first"}, first_above, D, 3, first)
                self.assert_error(InvalidBound, {"part": "first"}, count_within, D, 3, first, 50)
                self.assert_error(InvalidBound, {"part": "first"}, count_within, D, 3, first, "x")

    def test_last(self):
        for last in NOT_INTEGERS + (19, 11, 0, -1, -FAR):
            with self.subTest(last=last):
                for name, function in FUNCTIONS:
                    self.assert_error(InvalidBound, {"part": "last"}, function, D, 20, last)
                self.assert_error(InvalidBound, {"part": "last"}, count_within, D, 3, 20, last)

    def test_most(self):
        for most in NOT_INTEGERS + (-1, -FAR):
            with self.subTest(most=most):
                self.assert_error(InvalidBound, {"part": "most"}, first_above, D, most, 11)
                self.assert_error(InvalidBound, {"part": "most"}, first_above, D, most, None)
                self.assert_error(InvalidBound, {"part": "most"}, count_within, D, most, 11, 20)
                self.assert_error(InvalidBound, {"part": "most"}, count_within, D, most, 10, 3)
        self.assertEqual(count_within(D, 0, 11, 20), 2)

    def test_true_is_no_end(self):
        d = Delays(ROW, [], 0)
        self.assert_error(InvalidBound, {"part": "first"}, greatest_delay, d, True, 5)
        self.assert_error(InvalidBound, {"part": "last"}, greatest_delay, d, 1, True)
        self.assertEqual(greatest_delay(d, 1, 1), (3, 1))


class Settled(Case):

    def test_the_example(self):
        self.assertEqual(settled(D), (14, 6))

    def test_beside_listed_passes(self):
        source = seeded("settled")
        for turn in range(500):
            row, outages, begin = random_parts(source)
            # The last outage goes on longer than the horizon of the passes that are compared.
            end = begin + 400
            played = Played(row, outages + [(begin, end)], end + 60)
            passes = [time for time, told in zip(played.times, played.told) if told == FAILED and begin < time < end]
            distances = [later - time for time, later in zip(passes, passes[1:])]
            self.assertGreater(distances.count(distances[-1]), 5)
            at = len(distances)
            while at > 0 and distances[at - 1] == distances[-1]:
                at -= 1
            self.assertEqual(settled(Delays(row, outages, begin)), (passes[at], distances[-1]))

    def test_the_begin_is_not_later_than_itself(self):
        self.assertEqual(settled(Delays(Row([], 5), [], 10)), (15, 5))
        self.assertEqual(settled(Delays(Row([], 5), [], 9)), (10, 5))
        self.assertEqual(settled(Delays(Row([(1, 7, 1)], 1), [], 10)), (17, 7))
        self.assertEqual(settled(Delays(Row([(3, 7, 1)], 1), [], 10)), (12, 7))

    def test_the_phase_is_later(self):
        self.assertEqual(settled(Delays(Row([], 5, phase=100), [], 10)), (100, 5))

    def test_the_distance_is_the_period_of_the_row(self):
        source = seeded("settled periods")
        for turn in range(100):
            breakers = [(source.randint(1, 10 ** 12), source.randint(1, MOST), 1) for place in range(12)]
            row = Row(breakers, source.choice((1, 7, 10 ** 15, source.randint(1, MOST))), phase=source.randint(0, MOST))
            time, period = settled(Delays(row, [], source.randint(0, MOST)))
            self.assertEqual(period, row_period(row))
