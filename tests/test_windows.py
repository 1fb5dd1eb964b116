"""Parts of trains (point 13) and what an open breaker passes of them (point 14)."""

from breakerrow.errors import InvalidBound, InvalidTime
from breakerrow.trains import Trains, split_after, thinned, time_count, window
from tests.support import (NOT_INTEGERS, Case, blocks, is_endless, moved, random_trains, seeded, times_of,
                           trains_of_times)

EXAMPLE = [(0, 1, 2), (4, 3, 2), (10, 6, None)]
FAR = 10 ** 499
HORIZON = 600


def played(times, wait, time):
    """Play a breaker time by time that has opened at a time, and return what it passes if all this fails."""
    passed = []
    opened = time
    for request in times:
        if request - opened >= wait:
            passed.append(request)
            opened = request
    return passed


class Windows(Case):

    def test_the_examples(self):
        t = Trains(EXAMPLE)
        self.assertEqual(window(t, 4, 11).train_list(), [(4, 3, 3)])
        self.assertEqual(window(t, 0, 4) + window(t, 4, None), t)
        self.assert_error(InvalidBound, {"part": "after"}, window, t, 3, 2)

    def test_with_an_end(self):
        source = seeded("windows")
        for turn in range(60):
            trains = random_trains(source)
            t, times = Trains(trains), times_of(trains, HORIZON)
            for first in range(0, 50, 3):
                for after in range(first, 50, 2):
                    part = [time for time in times if first <= time < after]
                    self.assertEqual(window(t, first, after).train_list(), trains_of_times(part))
            self.assertEqual(t, Trains(trains))

    def test_without_an_end(self):
        source = seeded("endless windows")
        for turn in range(150):
            trains = random_trains(source)
            t, times = Trains(trains), times_of(trains, HORIZON)
            for first in range(0, 60, 2):
                part = [time for time in times if time >= first]
                self.assertEqual(window(t, first, None).train_list(), trains_of_times(part, is_endless(trains)))

    def test_a_window_without_times(self):
        t = Trains(EXAMPLE)
        for first, after in ((0, 0), (4, 4), (2, 4), (11, 16), (FAR, FAR)):
            self.assertEqual(window(t, first, after), Trains([]))
        self.assertEqual(window(Trains([(3, 1, 5)]), 8, None), Trains([]))
        self.assertEqual(window(Trains([]), 0, None), Trains([]))

    def test_invalid_bounds(self):
        t = Trains(EXAMPLE)
        for first in NOT_INTEGERS + (-1, -10 ** 30):
            with self.subTest(first=first):
                self.assert_error(InvalidBound, {"part": "first"}, window, t, first, 5)
                self.assert_error(InvalidBound, {"part": "first"}, window, t, first, None)
                self.assert_error(InvalidBound, {"part": "first"}, window, t, first, "x")
        for after in [value for value in NOT_INTEGERS if value is not None] + [4, 0, -1]:
            with self.subTest(after=after):
                self.assert_error(InvalidBound, {"part": "after"}, window, t, 5, after)
        for after in (True, False):
            self.assert_error(InvalidBound, {"part": "after"}, window, t, 0, after)
        self.assertEqual(window(t, 5, 5), Trains([]))

    def test_far_windows_at_once(self):
        t = Trains([(0, 3, FAR), (4 * FAR, 5, None)])
        self.assertEqual(window(t, FAR, 2 * FAR).train_list(), [(FAR + 2, 3, (FAR - 1) // 3)])
        self.assertEqual(window(t, 3 * FAR - 4, None).train_list(), [(3 * FAR - 3, FAR + 3, 2), (4 * FAR + 5, 5, None)])
        self.assertEqual(window(t, 5 * FAR, 5 * FAR + 11).train_list(), [(5 * FAR, 5, 3)])

    def test_a_thousand_trains(self):
        t = Trains(blocks(1000))
        self.assertEqual(window(t, 0, None), t)
        self.assertEqual(window(t, 20149, 40001).train_list(), [(20149, 51, 2)] + [(20201, 1, 149)]
                         + blocks(98, 20400) + [(40000, 1, 1)])


class Splits(Case):

    def test_the_example(self):
        one, other = split_after(Trains(EXAMPLE), 3)
        self.assertEqual(one.train_list(), [(0, 1, 2), (4, 1, 1)])
        self.assertEqual(other.train_list(), [(7, 3, 2), (16, 6, None)])

    def test_beside_the_listed_times(self):
        source = seeded("splits")
        for turn in range(200):
            trains = random_trains(source)
            t, times = Trains(trains), times_of(trains, HORIZON)
            for count in range(20):
                parts = split_after(t, count)
                self.assertIsInstance(parts, tuple)
                self.assertEqual([part.train_list() for part in parts],
                                 [trains_of_times(times[:count]),
                                  trains_of_times(times[count:], is_endless(trains))])

    def test_all_times_and_more(self):
        t = Trains([(0, 1, 2), (4, 3, 2)])
        for count in (4, 5, FAR):
            self.assertEqual(split_after(t, count), (t, Trains([])))
        self.assertEqual(split_after(t, 0), (Trains([]), t))
        self.assertEqual(split_after(Trains([]), 0), (Trains([]), Trains([])))
        self.assertEqual(split_after(Trains([]), 5), (Trains([]), Trains([])))

    def test_the_results_are_new_objects(self):
        t = Trains([(0, 1, 2)])
        self.assertIsNot(split_after(t, 9)[0], t)
        self.assertIsNot(split_after(t, 0)[1], t)
        self.assertIsNot(window(t, 0, None), t)

    def test_no_count(self):
        for t in (Trains(EXAMPLE), Trains([])):
            for count in NOT_INTEGERS + (-1, -10 ** 30):
                with self.subTest(count=count):
                    self.assert_error(InvalidBound, {"part": "count"}, split_after, t, count)

    def test_far_counts_at_once(self):
        t = Trains([(0, 3, FAR), (4 * FAR, 5, None)])
        one, other = split_after(t, FAR + 2)
        self.assertEqual(one.train_list(), [(0, 3, FAR), (4 * FAR, 5, 2)])
        self.assertEqual(other.train_list(), [(4 * FAR + 10, 5, None)])
        one, other = split_after(t, FAR // 2)
        self.assertEqual((time_count(one), other[0]), (FAR // 2, 3 * (FAR // 2)))

    def test_arguments_by_name(self):
        t = Trains(EXAMPLE)
        self.assertEqual(window(after=11, first=4, trains=t).train_list(), [(4, 3, 3)])
        self.assertEqual(split_after(count=3, trains=t)[0].train_list(), [(0, 1, 2), (4, 1, 1)])
        self.assertEqual(thinned(time=1, wait=4, trains=t).train_list(), [(7, 9, 2), (22, 6, None)])


class Thinned(Case):

    def test_the_example(self):
        self.assertEqual(thinned(Trains(EXAMPLE), 4, 1).train_list(), [(7, 9, 2), (22, 6, None)])

    def test_beside_a_breaker_that_is_played(self):
        source = seeded("thinned")
        for turn in range(120):
            trains = random_trains(source, 9)
            t, times = Trains(trains), times_of(trains, HORIZON)
            for wait in (1, 2, 3, 4, 5, 7, 10, 16, 40):
                for time in (0, 1, 2, 3, 6, 11, 20, 35):
                    expected = trains_of_times(played(times, wait, time), is_endless(trains))
                    self.assertEqual(thinned(t, wait, time).train_list(), expected)
            self.assertEqual(t, Trains(trains))

    def test_edges_of_the_wait(self):
        t = Trains([(0, 5, None)])
        self.assertEqual([thinned(t, wait, 0).train_list() for wait in (1, 5, 6, 10, 11)],
                         [[(5, 5, None)], [(5, 5, None)], [(10, 10, None)], [(10, 10, None)], [(15, 15, None)]])
        self.assertEqual([thinned(t, 4, time).train_list() for time in (0, 1, 2, 6)],
                         [[(5, 5, None)], [(5, 5, None)], [(10, 5, None)], [(10, 5, None)]])
        self.assertEqual(thinned(Trains([(0, 5, 3)]), 4, 6).train_list(), [(10, 1, 1)])
        self.assertEqual(thinned(Trains([(0, 5, 3)]), 5, 6), Trains([]))
        self.assertEqual(thinned(Trains([(0, 5, 3), (11, 1, 9)]), 5, 5).train_list(), [(10, 5, 2)])
        self.assertEqual(thinned(Trains([]), 5, 5), Trains([]))

    def test_far_trains(self):
        source = seeded("far thinned")
        scale = 10 ** 29
        for turn in range(150):
            trains = random_trains(source, 7)
            wait, time = source.randint(1, 12), source.randint(0, 30)
            expected = trains_of_times(played(times_of(trains, HORIZON), wait, time), is_endless(trains))
            t = Trains(moved(trains, scale, FAR))
            self.assertEqual(thinned(t, wait * scale, time * scale + FAR).train_list(), moved(expected, scale, FAR))

    def test_as_many_times_as_no_one_counts(self):
        self.assertEqual(thinned(Trains([(0, 3, FAR)]), 7, 0).train_list(), [(9, 9, (FAR - 1) // 3)])
        self.assertEqual(thinned(Trains([(0, 1, FAR), (FAR + 10 ** 30, 1, None)]), 10 ** 30, 0).train_list(),
                         [(10 ** 30, 10 ** 30, 10 ** 469 - 1), (FAR + 10 ** 30, 10 ** 30, None)])
        self.assertEqual(thinned(Trains([(0, 1, FAR)]), 10 ** 30, FAR - 10 ** 30), Trains([]))
        self.assertEqual(thinned(Trains([(0, 1, FAR)]), 10 ** 30, FAR - 10 ** 30 - 1).train_list(), [(FAR - 1, 1, 1)])

    def test_a_thousand_trains(self):
        t = Trains(blocks(1000))
        self.assertEqual(thinned(t, 1, 0), window(t, 1, None))
        times = times_of(blocks(1000), 10 ** 6)
        self.assertEqual(thinned(t, 70, 0).train_list(), trains_of_times(played(times, 70, 0)))

    def test_invalid_arguments_in_their_order(self):
        t = Trains(EXAMPLE)
        for wait in NOT_INTEGERS + (0, -1):
            with self.subTest(wait=wait):
                self.assert_error(InvalidBound, {"part": "wait"}, thinned, t, wait, 1)
                self.assert_error(InvalidBound, {"part": "wait"}, thinned, t, wait, -1)
                self.assert_error(InvalidBound, {"part": "wait"}, thinned, Trains([]), wait, None)
        for time in NOT_INTEGERS + (-1, -10 ** 30):
            with self.subTest(time=time):
                self.assert_error(InvalidTime, {"time": time}, thinned, t, 1, time)
                self.assert_error(InvalidTime, {"time": time}, thinned, Trains([]), 1, time)
