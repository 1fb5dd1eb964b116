"""Sums of trains and what two trains share (point 15)."""

import math

from breakerrow.errors import InvalidTrains, LimitExceeded
from breakerrow.rows import Row
from breakerrow.trains import Trains, shared, split_after, window
from tests.support import (NOT_INTEGERS, Case, blocks, is_endless, moved, random_trains, seeded, times_of,
                           trains_of_times)

EXAMPLE = [(0, 1, 2), (4, 3, 2), (10, 6, None)]
FAR = 10 ** 499
HORIZON = 900


class Sums(Case):

    def test_the_examples(self):
        t = Trains(EXAMPLE)
        self.assertTrue((window(t, 0, 4) + window(t, 4, None)) == t)
        self.assert_error(InvalidTrains, {"at": -1}, lambda: t + t)

    def test_beside_the_listed_times(self):
        source = seeded("sums")
        for turn in range(600):
            first = random_trains(source, 5, endless=False)
            latest = max(times_of(first, HORIZON), default=-1)
            second = moved(random_trains(source, 5), 1, latest + source.randint(1, 4))
            one, other = Trains(first), Trains(second)
            times = times_of(first, HORIZON) + times_of(second, HORIZON)
            self.assertEqual((one + other).train_list(), trains_of_times(times, is_endless(second)))
            self.assertEqual((one, other), (Trains(first), Trains(second)))

    def test_two_parts_make_the_whole(self):
        source = seeded("parts")
        for turn in range(150):
            t = Trains(random_trains(source))
            for count in range(12):
                one, other = split_after(t, count)
                self.assertEqual(one + other, t)

    def test_empty_trains(self):
        empty, t = Trains([]), Trains(EXAMPLE)
        self.assertEqual([t + empty, empty + t, empty + empty], [t, t, empty])
        self.assertIsNot(t + empty, t)
        self.assertIsNot(empty + t, t)

    def test_times_that_are_not_behind(self):
        one = Trains([(3, 4, 3)])
        self.assertEqual((one + Trains([(12, 1, None)])).train_list(), [(3, 4, 3), (12, 1, None)])
        for trains in ([(11, 1, 1)], [(10, 1, 1)], [(0, 1, 1)], [(0, 1, 1), (20, 1, 1)], [(11, 9, None)]):
            self.assert_error(InvalidTrains, {"at": -1}, lambda: one + Trains(trains))
        several = Trains([(0, 1, 3), (10, 3, 3), (30, 1, 3)])
        for trains in ([(5, 1, 1)], [(20, 1, None)], [(31, 1, 9)], [(32, 1, 9)], [(32, 1, 3), (50, 1, 3)],
                       [(20, 1, 3), (50, 1, 3), (60, 2, None)]):
            self.assert_error(InvalidTrains, {"at": -1}, lambda: several + Trains(trains))
        self.assertEqual((several + Trains([(33, 1, 3), (50, 1, 3)])).train_list(),
                         [(0, 1, 3), (10, 3, 3), (30, 1, 6), (50, 1, 3)])
        self.assert_error(InvalidTrains, {"at": -1}, lambda: Trains(EXAMPLE) + Trains([(FAR, 1, 1)]))
        self.assert_error(InvalidTrains, {"at": -1}, lambda: Trains([(0, 2, None)]) + Trains([(FAR, 1, 1)]))
        self.assert_error(InvalidTrains, {"at": -1}, lambda: Trains([(0, 2, None)]) + Trains([(1, 2, None)]))

    def test_no_trains(self):
        for t in (Trains([(3, 4, 3)]), Trains([])):
            for other in NOT_INTEGERS + (99, [(99, 1, 1)], [], (99, 1, 1), Row([], 1, phase=99)):
                with self.subTest(other=other):
                    self.assert_error(InvalidTrains, {"at": -1}, lambda: t + other)

    def test_a_thousand_trains_and_one_more(self):
        one = Trains(blocks(600))
        self.assertEqual((one + Trains(blocks(400, 200 * 600))).train_list(), blocks(1000))
        self.assert_error(LimitExceeded, {"limit": 1000}, lambda: one + Trains(blocks(401, 200 * 600)))
        self.assert_error(LimitExceeded, {"limit": 1000},
                          lambda: Trains(blocks(1000)) + Trains(blocks(1000, 200 * 1000)))
        self.assert_error(LimitExceeded, {"limit": 1000}, lambda: Trains(blocks(1000)) + Trains([(FAR, 1, 1)]))

    def test_the_limit_is_for_the_normal_form(self):
        whole = Trains(blocks(1000))
        # The last train of the first one goes on with the other one.
        self.assertEqual((whole + Trains([(199950, 1, 7)])).train_list(), blocks(999) + [(199800, 1, 157)])
        one, other = split_after(whole, 150 * 500 + 75)
        self.assertEqual((len(one), len(other)), (501, 500))
        self.assertEqual(one + other, whole)
        self.assert_error(LimitExceeded, {"limit": 1000}, lambda: whole + Trains([(199951, 1, 7)]))

    def test_trains_that_are_not_behind_come_before_the_limit(self):
        one = Trains(blocks(1000))
        self.assert_error(InvalidTrains, {"at": -1}, lambda: one + one)

    def test_far_trains(self):
        one, other = Trains([(0, 3, FAR)]), Trains([(3 * FAR, 3, FAR), (6 * FAR, 10 ** 30, None)])
        self.assertEqual((one + other).train_list(), [(0, 3, 2 * FAR + 1), (6 * FAR + 10 ** 30, 10 ** 30, None)])


class Shared(Case):

    def test_the_example(self):
        self.assertEqual(shared(Trains(EXAMPLE), Trains([(1, 3, None)])).train_list(), [(1, 3, 4), (16, 6, None)])

    def check(self, first, second):
        one, other = Trains(first), Trains(second)
        times = sorted(set(times_of(first, HORIZON)) & set(times_of(second, HORIZON)))
        # Trains without end that meet at all meet often within the horizon.
        endless = is_endless(first) and is_endless(second) and any(time > HORIZON // 2 for time in times)
        expected = trains_of_times(times, endless)
        self.assertEqual(shared(one, other).train_list(), expected)
        self.assertEqual(shared(other, one).train_list(), expected)
        self.assertEqual((one, other), (Trains(first), Trains(second)))
        return expected

    def test_beside_the_listed_times(self):
        source = seeded("shared")
        for turn in range(1200):
            self.check(random_trains(source, 7), random_trains(source, 7))

    def test_two_trains_beside_the_listed_times(self):
        source = seeded("shared pairs")
        for turn in range(1500):
            trains = [(source.randint(0, 30), source.randint(1, 12), source.choice((None, source.randint(1, 40))))
                      for side in range(2)]
            self.check(trains[:1], trains[1:])

    def test_far_trains(self):
        source = seeded("far shared")
        scale = 10 ** 29
        for turn in range(150):
            first, second = random_trains(source, 5), random_trains(source, 5)
            expected = self.check(first, second)
            one, other = Trains(moved(first, scale, FAR)), Trains(moved(second, scale, FAR))
            self.assertEqual(shared(one, other).train_list(), moved(expected, scale, FAR))

    def test_trains_without_end_meet_at_the_least_common_multiple(self):
        for step in range(1, 25):
            for other in range(1, 25):
                self.assertEqual(shared(Trains([(7, step, None)]), Trains([(7, other, None)])).train_list(),
                                 [(7, math.lcm(step, other), None)])
        step, other = 10 ** 29, 10 ** 29 + 1
        self.assertEqual(shared(Trains([(0, step, None)]), Trains([(1, other, None)])).train_list(),
                         [(10 ** 58, step * other, None)])
        self.assertEqual(shared(Trains([(5, 6 * step, None)]), Trains([(5 + 10 * step, 4 * step, None)])).train_list(),
                         [(5 + 18 * step, 12 * step, None)])

    def test_trains_that_never_meet(self):
        for first, second in (([(0, 2, None)], [(1, 2, None)]), ([(0, 6, None)], [(2, 9, None)]),
                              ([(0, 10 ** 30, None)], [(1, 10 ** 30, None)]),
                              ([(0, 2 * 10 ** 29, None)], [(FAR + 1, 4 * 10 ** 29, None)]),
                              ([(0, 1, 5)], [(5, 1, None)]), ([(0, 5, 2)], [(1, 1, 4)]), ([], EXAMPLE), ([], [])):
            self.assertEqual(shared(Trains(first), Trains(second)), Trains([]))
            self.assertEqual(shared(Trains(second), Trains(first)), Trains([]))

    def test_the_last_times_that_are_shared(self):
        for count in range(1, 9):
            # The trains meet at 12, 24, 36 and so on.
            met = trains_of_times([time for time in range(12, 100, 12) if time <= 4 * (count * 3 - 1)])
            self.assertEqual(shared(Trains([(4, 4, count * 3 - 1)]), Trains([(6, 6, None)])).train_list(), met)
        self.assertEqual(shared(Trains([(0, 4, 4)]), Trains([(0, 6, 3)])).train_list(), [(0, 12, 2)])
        self.assertEqual(shared(Trains([(0, 4, 3)]), Trains([(0, 6, 3)])).train_list(), [(0, 1, 1)])

    def test_all_times_of_one(self):
        t, every = Trains(EXAMPLE), Trains([(0, 1, None)])
        self.assertEqual([shared(t, every), shared(every, t), shared(t, t)], [t, t, t])
        self.assertIsNot(shared(t, t), t)
        many = Trains(blocks(1000))
        self.assertEqual(shared(many, many), many)

    def test_so_many_times_that_no_one_counts_them(self):
        one, other = Trains([(0, 3, FAR), (4 * FAR, 7, FAR)]), Trains([(0, 2, 10 * FAR)])
        self.assertEqual(shared(one, other).train_list(), [(0, 6, FAR // 2), (4 * FAR, 14, FAR // 2)])
        prime = FAR + 1
        self.assertEqual(shared(Trains([(0, FAR, None)]), Trains([(0, prime, None)])).train_list(),
                         [(0, FAR * prime, None)])

    def test_a_thousand_trains_and_one_more(self):
        # Each block meets two blocks of the other side, but for the last one: n + m - 1 trains in all.
        one = Trains(blocks(501))
        pieces = []
        for place in range(500):
            pieces += [(200 * place + 100, 1, 50), (200 * place + 200, 1, 50)]
        self.assertEqual(shared(one, Trains(blocks(500, 100))).train_list(), pieces)
        self.assertEqual(len(shared(Trains(blocks(500, 100)), one)), 1000)
        self.assert_error(LimitExceeded, {"limit": 1000}, shared, one, Trains(blocks(501, 100)))
        self.assert_error(LimitExceeded, {"limit": 1000}, shared, Trains(blocks(1000)), Trains(blocks(1000, 100)))

    def test_the_limit_is_for_the_normal_form(self):
        # Both sides have all even times, and odd ones in turns: more than 1000 pieces, but a single train.
        one, other = [], [(0, 2, 101)]
        for place in range(499):
            start = 400 * place
            one += [(start, 1, 101), (start + 102, 2, 149)]
            other += [(start + 202, 1, 99), (start + 302, 2, 150)]
        self.assertEqual((len(Trains(one)), len(Trains(other))), (998, 999))
        self.assertEqual(shared(Trains(one), Trains(other)).train_list(), [(0, 2, 99800)])

    def test_many_far_trains_at_once(self):
        scale = 10 ** 480
        one = Trains([(400 * scale * place, scale + place, 300) for place in range(500)])
        other = Trains([(400 * scale * place + 100, scale - place, 300) for place in range(500)])
        # The trains of the place k meet where (scale + k) * i is (scale - k) * j + 100, that is, where k * 2 * i
        # is 100 and i is j.
        met = [400 * scale * place + (scale + place) * (50 // place) for place in range(1, 51) if 50 % place == 0]
        self.assertEqual(shared(one, other), Trains([(time, 1, 1) for time in met]))

    def test_arguments_by_name(self):
        self.assertEqual(shared(other=Trains([(1, 3, None)]), one=Trains(EXAMPLE)).train_list(),
                         [(1, 3, 4), (16, 6, None)])
