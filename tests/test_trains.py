"""Trains: their normal form and equality (point 10), their times (point 11), and times beside them (point 12)."""

from breakerrow import trains as module
from breakerrow.errors import InvalidIndex, InvalidTime, InvalidTrains
from breakerrow.rows import Row
from breakerrow.trains import Trains, count_before, latest_time, next_time, time_count
from tests.support import (NOT_INTEGERS, Case, blocks, is_endless, moved, random_trains, seeded, times_of,
                           trains_of_times)

EXAMPLE = [(0, 1, 2), (4, 3, 2), (10, 6, None)]
FAR = 10 ** 499
HORIZON = 400


def split_up(source, trains):
    """Return other trains with the same times."""
    parts = []
    for start, step, count in trains:
        while count is None or count > 0:
            if count is None and source.random() < 0.3:
                parts.append((start, step, None))
                break
            length = source.randint(1, 3 if count is None else count)
            parts.append((start, step if length > 1 else source.randint(1, 9), length))
            start += length * step
            count = None if count is None else count - length
    return parts


class NormalForm(Case):

    def test_the_example(self):
        t = Trains(EXAMPLE)
        self.assertEqual(t.train_list(), [(0, 1, 2), (4, 3, 3), (16, 6, None)])
        self.assertEqual(len(t), 3)

    def test_beside_the_listed_times(self):
        source = seeded("normal")
        for turn in range(1500):
            trains = random_trains(source, 8)
            expected = trains_of_times(times_of(trains, HORIZON), is_endless(trains))
            t = Trains(trains)
            self.assertEqual(t.train_list(), expected)
            self.assertEqual(len(t), len(expected))

    def test_the_empty_list(self):
        self.assertEqual((Trains([]).train_list(), len(Trains([]))), ([], 0))

    def test_a_single_time_has_the_step_1(self):
        self.assertEqual(Trains([(5, 9, 1)]).train_list(), [(5, 1, 1)])
        self.assertEqual(Trains([(0, 2, 3), (9, 8, 1)]).train_list(), [(0, 2, 3), (9, 1, 1)])

    def test_a_single_time_that_is_not_the_last_one(self):
        self.assertEqual(Trains([(0, 7, 1), (5, 3, 1)]).train_list(), [(0, 5, 2)])
        self.assertEqual(Trains([(0, 7, 1), (5, 3, 2)]).train_list(), [(0, 5, 2), (8, 1, 1)])
        self.assertEqual(Trains([(0, 7, 1), (5, 5, 3)]).train_list(), [(0, 5, 4)])
        self.assertEqual(Trains([(0, 7, 1), (5, 3, None)]).train_list(), [(0, 5, 2), (8, 3, None)])
        self.assertEqual(Trains([(0, 7, 1), (5, 5, None)]).train_list(), [(0, 5, None)])

    def test_each_train_takes_as_much_as_it_can(self):
        self.assertEqual(Trains([(0, 2, 2), (4, 3, 2), (9, 2, 2)]).train_list(), [(0, 2, 3), (7, 2, 3)])
        self.assertEqual(Trains([(0, 2, 2), (4, 2, 5)]).train_list(), [(0, 2, 7)])
        self.assertEqual(Trains([(0, 2, 2), (5, 2, 2)]).train_list(), [(0, 2, 2), (5, 2, 2)])
        self.assertEqual(Trains([(0, 2, 2), (4, 2, None)]).train_list(), [(0, 2, None)])
        self.assertEqual(Trains([(0, 2, 1), (3, 1, 1), (6, 1, 1), (9, 3, None)]).train_list(), [(0, 3, None)])

    def test_a_train_without_end(self):
        self.assertEqual(Trains([(7, 5, None)]).train_list(), [(7, 5, None)])

    def test_trains_of_single_times(self):
        squares = [(number * number, 7, 1) for number in range(8)]
        self.assertEqual(Trains(squares).train_list(), [(0, 1, 2), (4, 5, 2), (16, 9, 2), (36, 13, 2)])
        row = [(5 * number, 7, 1) for number in range(1000)]
        self.assertEqual(Trains(row).train_list(), [(0, 5, 1000)])

    def test_a_list_that_was_passed_is_neither_kept_nor_modified(self):
        trains = list(EXAMPLE)
        t = Trains(trains)
        self.assertEqual(trains, EXAMPLE)
        trains[0] = (0, 1, 3)
        trains.pop()
        self.assertEqual(t.train_list(), [(0, 1, 2), (4, 3, 3), (16, 6, None)])
        self.assertEqual(t[2], 4)
        self.assertIsNone(time_count(t))

    def test_a_list_that_was_returned_belongs_to_the_caller(self):
        t = Trains(EXAMPLE)
        returned = t.train_list()
        self.assertIsInstance(returned, list)
        self.assertTrue(all(type(train) is tuple for train in returned))
        returned.clear()
        self.assertEqual(t.train_list(), [(0, 1, 2), (4, 3, 3), (16, 6, None)])
        self.assertEqual((len(t), t[5]), (3, 16))

    def test_the_argument_by_name_and_the_place_of_the_methods(self):
        self.assertEqual(Trains(trains=EXAMPLE).train_list(), [(0, 1, 2), (4, 3, 3), (16, 6, None)])
        for name in ("train_list", "__len__", "__contains__", "__getitem__", "__add__", "__eq__"):
            self.assertIn(name, vars(Trains))
        for name in ("Trains", "time_count", "count_before", "next_time", "latest_time", "window", "split_after",
                     "thinned", "shared"):
            self.assertEqual(getattr(module, name).__module__, "breakerrow.trains")

    def test_far_trains_at_once(self):
        source = seeded("far normal")
        for turn in range(100):
            trains = random_trains(source, 6)
            expected = trains_of_times(times_of(trains, HORIZON), is_endless(trains))
            self.assertEqual(Trains(moved(trains, 10 ** 29, FAR)).train_list(), moved(expected, 10 ** 29, FAR))
        self.assertEqual(Trains([(0, 3, FAR), (3 * FAR, 3, FAR), (6 * FAR, 5, FAR)]).train_list(),
                         [(0, 3, 2 * FAR + 1), (6 * FAR + 5, 5, FAR - 1)])


class InvalidLists(Case):

    def test_a_thousand_trains_and_one_more(self):
        self.assertEqual(len(Trains(blocks(1000))), 1000)
        self.assertEqual(Trains(blocks(1000)).train_list(), blocks(1000))
        self.assert_error(InvalidTrains, {"at": -1}, Trains, blocks(1001))
        self.assert_error(InvalidTrains, {"at": -1}, Trains, [(number, 1, 1) for number in range(1001)])
        self.assert_error(InvalidTrains, {"at": -1}, Trains, [None] * 1001)

    def test_no_list(self):
        for value in (None, 0, True, "", "abc", b"", (), ((0, 1, 1),), (0, 1, 1), {}, {0: (0, 1, 1)}, set(),
                      {(0, 1, 1)}, object(), Trains([]), iter([])):
            with self.subTest(value=value):
                self.assert_error(InvalidTrains, {"at": -1}, Trains, value)

    def test_no_train(self):
        for item in (None, 0, True, "abc", b"abc", [0, 1, 1], [], (), (0,), (0, 1), (0, 1, 1, 1), {}, {0, 1, 2},
                     object(), Trains([]), (-1, 1, 1), (0, 0, 1), (0, -1, 1), (0, 1, 0), (0, 1, -1), (-1, 1, None),
                     (0, 0, None), ((0, 1, 1),)):
            with self.subTest(item=item):
                self.assert_error(InvalidTrains, {"at": 0}, Trains, [item])
                self.assert_error(InvalidTrains, {"at": 1}, Trains, [(0, 1, 1), item, None])

    def test_a_train_consists_of_integers(self):
        for value in NOT_INTEGERS:
            items = [(value, 1, 1), (50, value, 1)] + ([] if value is None else [(50, 1, value)])
            for item in items:
                with self.subTest(item=item):
                    self.assert_error(InvalidTrains, {"at": 0}, Trains, [item])
                    self.assert_error(InvalidTrains, {"at": 2}, Trains, [(0, 1, 1), (5, 1, 1), item])

    def test_the_least_numbers(self):
        self.assertEqual(Trains([(0, 1, 1)]).train_list(), [(0, 1, 1)])
        self.assertEqual(Trains([(0, 1, None)]).train_list(), [(0, 1, None)])

    def test_a_train_that_starts_too_early(self):
        self.assert_error(InvalidTrains, {"at": 1}, Trains, [(3, 1, 2), (4, 1, 1)])
        self.assert_error(InvalidTrains, {"at": 1}, Trains, [(3, 1, 2), (3, 1, 1)])
        self.assert_error(InvalidTrains, {"at": 1}, Trains, [(3, 5, 3), (13, 1, None)])
        self.assert_error(InvalidTrains, {"at": 2}, Trains, [(0, 1, 1), (1, 1, 1), (1, 1, 1), None])
        self.assert_error(InvalidTrains, {"at": 1}, Trains, [(3, 9, 1), (3, 1, 1)])
        self.assertEqual(Trains([(3, 5, 3), (14, 1, None)]).train_list(), [(3, 5, 3), (14, 1, None)])
        self.assertEqual(Trains([(3, 9, 1), (4, 1, 1)]).train_list(), [(3, 1, 2)])

    def test_a_train_behind_one_without_end(self):
        self.assert_error(InvalidTrains, {"at": 1}, Trains, [(0, 2, None), (5, 1, 1)])
        self.assert_error(InvalidTrains, {"at": 2}, Trains, [(0, 2, 1), (1, 1, None), (10 ** 30, 1, None), None])
        self.assert_error(InvalidTrains, {"at": 1}, Trains, [(0, 2, None), None])

    def test_the_first_of_several(self):
        trains = blocks(1000)
        self.assert_error(InvalidTrains, {"at": 997}, Trains, trains[:997] + [(0, 1, 1), None, 5])
        self.assert_error(InvalidTrains, {"at": 999}, Trains, trains[:999] + [None])


class Equality(Case):

    def test_the_same_times(self):
        source = seeded("equal")
        for turn in range(300):
            trains = random_trains(source, 5)
            other = split_up(source, trains)
            self.assertTrue(Trains(trains) == Trains(other))
            self.assertFalse(Trains(trains) != Trains(other))

    def test_other_times(self):
        t = Trains(EXAMPLE)
        for trains in ([], [(0, 1, 2)], EXAMPLE[:2], [(0, 1, 2), (4, 3, 2), (10, 6, 99)], [(0, 1, 2), (4, 3, None)],
                       [(1, 1, 1)] + EXAMPLE[1:], [(0, 1, 3)] + EXAMPLE[1:], [(0, 1, 2), (4, 3, 2), (10, 5, None)]):
            self.assertFalse(t == Trains(trains))
            self.assertTrue(t != Trains(trains))

    def test_other_objects(self):
        t = Trains([(0, 1, None)])
        for other in NOT_INTEGERS + ([(0, 1, None)], ((0, 1, None),), (0, 1, None), Row([], 1), 0):
            self.assertFalse(t == other)
            self.assertFalse(other == t)
            self.assertTrue(t != other)
        self.assertFalse(Trains([]) == [])
        self.assertFalse(Trains([]) == Row([], 1))


class Times(Case):

    def test_the_examples(self):
        t = Trains(EXAMPLE)
        self.assertEqual(t[5], 16)
        self.assertFalse(13 in t)
        self.assertEqual([t[index] for index in range(7)], [0, 1, 4, 7, 10, 16, 22])
        self.assertIsNone(time_count(t))
        self.assert_error(InvalidIndex, {"index": -1}, lambda: t[-1])

    def test_beside_the_listed_times(self):
        source = seeded("times")
        for turn in range(200):
            trains = random_trains(source)
            t, times = Trains(trains), times_of(trains, HORIZON)
            self.assertEqual([t[index] for index in range(len(times))], times)
            for time in range(-2, 60):
                self.assertIs(time in t, time in times)
            if is_endless(trains):
                self.assertIsNone(time_count(t))
            else:
                self.assertEqual(time_count(t), len(times))
                for index in (len(times), len(times) + 1, 10 ** 31):
                    self.assert_error(InvalidIndex, {"index": index}, lambda: t[index])

    def test_in_is_for_any_object(self):
        for t in (Trains([(0, 1, None)]), Trains([]), Trains([(0, 1, 2)])):
            for value in NOT_INTEGERS + (-1, (0, 1, 2), [(0, 1, 2)], t):
                with self.subTest(value=value):
                    self.assertIs(value in t, False)

    def test_no_index(self):
        for t in (Trains([(0, 1, None)]), Trains([(0, 1, 2)]), Trains([])):
            for index in NOT_INTEGERS + (-1, -2, -10 ** 30):
                with self.subTest(index=index):
                    self.assert_error(InvalidIndex, {"index": index}, lambda: t[index])
        self.assert_error(InvalidIndex, {"index": 0}, lambda: Trains([])[0])
        self.assert_error(InvalidIndex, {"index": 2}, lambda: Trains([(0, 1, 2)])[2])

    def test_no_times(self):
        t = Trains([])
        self.assertEqual(time_count(t), 0)
        self.assertIs(0 in t, False)

    def test_far_times_at_once(self):
        t = Trains([(0, 3, FAR), (4 * FAR, 5, FAR), (10 * FAR, 10 ** 30, None)])
        self.assertEqual([t[FAR - 1], t[FAR], t[2 * FAR - 1], t[2 * FAR], t[3 * FAR]],
                         [3 * FAR - 3, 4 * FAR, 9 * FAR - 5, 10 * FAR, 10 * FAR + 10 ** 30 * FAR])
        self.assertEqual([time in t for time in (3 * FAR - 3, 3 * FAR, 4 * FAR + 5, 4 * FAR + 6, 10 * FAR)],
                         [True, False, True, False, True])
        self.assertEqual(time_count(Trains([(0, 3, FAR), (4 * FAR, 5, FAR)])), 2 * FAR)
        self.assert_error(InvalidIndex, {"index": 2 * FAR}, lambda: Trains([(0, 3, FAR), (4 * FAR, 5, FAR)])[2 * FAR])

    def test_a_thousand_trains(self):
        t = Trains(blocks(1000))
        self.assertEqual(time_count(t), 150000)
        for index in (0, 149, 150, 151, 74999, 75000, 149999):
            time = index // 150 * 200 + index % 150
            self.assertEqual(t[index], time)
            self.assertTrue(time in t)
        self.assertFalse(150 in t)
        self.assertFalse(199950 in t)


class TimesBeside(Case):

    def test_the_examples(self):
        t = Trains(EXAMPLE)
        self.assertEqual(count_before(t, 10), 4)
        self.assertEqual(next_time(t, 11), 16)
        self.assertEqual(latest_time(t, 3), 1)

    def test_beside_the_listed_times(self):
        source = seeded("beside")
        for turn in range(250):
            trains = random_trains(source)
            t, times = Trains(trains), times_of(trains, HORIZON)
            for time in range(70):
                self.assertEqual(count_before(t, time), len([x for x in times if x < time]))
                self.assertEqual(next_time(t, time), min([x for x in times if x >= time], default=None))
                self.assertEqual(latest_time(t, time), max([x for x in times if x <= time], default=None))

    def test_none_where_there_is_none(self):
        t = Trains([(5, 2, 2), (10, 1, 1)])
        self.assertEqual([next_time(t, time) for time in (0, 5, 6, 7, 8, 10, 11, FAR)],
                         [5, 5, 7, 7, 10, 10, None, None])
        self.assertEqual([latest_time(t, time) for time in (0, 4, 5, 6, 7, 9, 10, 11, FAR)],
                         [None, None, 5, 5, 7, 7, 10, 10, 10])
        self.assertEqual([count_before(t, time) for time in (0, 5, 6, 7, 8, 10, 11, FAR)], [0, 0, 1, 1, 2, 2, 3, 3])
        empty = Trains([])
        self.assertEqual([count_before(empty, 3), next_time(empty, 3), latest_time(empty, 3)], [0, None, None])

    def test_no_time(self):
        for t in (Trains(EXAMPLE), Trains([])):
            for function in (count_before, next_time, latest_time):
                for time in NOT_INTEGERS + (-1, -10 ** 30):
                    with self.subTest(function=function.__name__, time=time):
                        self.assert_error(InvalidTime, {"time": time}, function, t, time)

    def test_arguments_by_name(self):
        t = Trains(EXAMPLE)
        self.assertIsNone(time_count(trains=t))
        self.assertEqual([function(time=11, trains=t) for function in (count_before, next_time, latest_time)],
                         [5, 16, 10])

    def test_far_times_at_once(self):
        t = Trains([(0, 3, FAR), (4 * FAR, 5, FAR), (10 * FAR, 10 ** 30, None)])
        self.assertEqual([count_before(t, time) for time in (3 * FAR - 3, 3 * FAR - 2, 4 * FAR, 4 * FAR + 1,
                                                             9 * FAR - 5, 9 * FAR - 4, 10 * FAR + 10 ** 40)],
                         [FAR - 1, FAR, FAR, FAR + 1, 2 * FAR - 1, 2 * FAR, 2 * FAR + 10 ** 10])
        self.assertEqual([next_time(t, time) for time in (3 * FAR - 3, 3 * FAR - 2, 5 * FAR - 1, 10 * FAR + 1)],
                         [3 * FAR - 3, 4 * FAR, 5 * FAR, 10 * FAR + 10 ** 30])
        self.assertEqual([latest_time(t, time) for time in (3 * FAR - 4, 4 * FAR - 1, 10 * FAR - 1, 11 * FAR - 1)],
                         [3 * FAR - 6, 3 * FAR - 3, 9 * FAR - 5, 11 * FAR - 10 ** 30])
