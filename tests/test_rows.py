"""Rows: their parts, their items, their sums and their equality (point 5), and the times of requests (point 7)."""

from breakerrow.errors import InvalidIndex, InvalidRow, InvalidTime
from breakerrow.rows import Row, first_request, request_time
from breakerrow.trains import Trains
from tests.support import NOT_INTEGERS, Case, random_breakers, seeded

MOST_COUNT = 10 ** 12
MOST = 10 ** 30
GOOD = (2, 3, 1)
TWO = [(2, 3, 1), (1, 4, 1)]
NO_BREAKERS = ([2, 3, 1], (2, 3), (2, 3, 1, 1), (), None, 5, True, "231", b"231", {}, {2: 3}, {2, 3, 1}, object(),
               ((2, 3, 1),), [(2, 3, 1)],
               (0, 3, 1), (MOST_COUNT + 1, 3, 1), (2, 0, 1), (2, MOST + 1, 1), (2, 3, 0), (2, 3, MOST_COUNT + 1),
               (-1, 3, 1), (2, -3, 1), (2, 3, -1))


class Parts(Case):

    def test_the_parts(self):
        row = Row(TWO, 7, phase=4)
        self.assertEqual((row.breaker_list(), row.step_length(), row.phase_time()), (TWO, 7, 4))

    def test_the_phase_is_0_by_default(self):
        self.assertEqual(Row(TWO, 7).phase_time(), 0)

    def test_the_arguments_by_name(self):
        row = Row(phase=4, step=7, breakers=TWO)
        self.assertEqual((row.breaker_list(), row.step_length(), row.phase_time()), (TWO, 7, 4))

    def test_the_phase_is_by_name_only_and_the_step_is_needed(self):
        self.assertRaises(TypeError, lambda: Row(TWO, 7, 4))
        self.assertRaises(TypeError, lambda: Row(TWO))

    def test_the_methods_stand_in_the_class_itself(self):
        for name in ("breaker_list", "step_length", "phase_time", "__len__", "__getitem__", "__add__",
                     "__contains__", "__eq__"):
            self.assertIn(name, vars(Row))
        self.assertEqual(Row.__module__, "breakerrow.rows")

    def test_the_breakers_are_tuples_in_their_order(self):
        breakers = [(place + 1, 100 - place, 3 * place + 1) for place in range(12)]
        self.assertEqual(Row(breakers, 1).breaker_list(), breakers)

    def test_a_list_that_was_passed_is_neither_kept_nor_modified(self):
        breakers = list(TWO)
        row = Row(breakers, 1)
        self.assertEqual(breakers, TWO)
        breakers.append((1, 1, 1))
        breakers[0] = (9, 9, 9)
        self.assertEqual(row.breaker_list(), TWO)
        self.assertEqual(len(row), 2)

    def test_a_list_that_was_returned_belongs_to_the_caller(self):
        row = Row(TWO, 1)
        returned = row.breaker_list()
        self.assertIsInstance(returned, list)
        returned.clear()
        self.assertEqual(row.breaker_list(), TWO)
        self.assertEqual(row[0], (2, 3, 1))


class Limits(Case):

    def test_from_0_to_12_breakers(self):
        for number in range(13):
            self.assertEqual(len(Row([GOOD] * number, 1)), number)

    def test_13_breakers(self):
        for number in (13, 14, 100):
            self.assert_error(InvalidRow, {"part": "breakers", "at": -1}, Row, [GOOD] * number, 1)
        self.assert_error(InvalidRow, {"part": "breakers", "at": -1}, Row, [None] * 13, 1)

    def test_no_list_of_breakers(self):
        for value in (None, 5, True, "", "abc", b"", (), (GOOD,), GOOD, {}, {0: GOOD}, set(), {GOOD}, object(),
                      iter([GOOD]), Row(TWO, 1)):
            with self.subTest(value=value):
                self.assert_error(InvalidRow, {"part": "breakers", "at": -1}, Row, value, 1)

    def test_the_limits_of_a_breaker(self):
        for breaker in ((1, 1, 1), (MOST_COUNT, 1, 1), (1, MOST, 1), (1, 1, MOST_COUNT),
                        (MOST_COUNT, MOST, MOST_COUNT), (1, MOST - 1, 1)):
            self.assertEqual(Row([breaker], 1).breaker_list(), [breaker])

    def test_one_beyond_a_limit_and_other_items(self):
        for item in NO_BREAKERS:
            with self.subTest(item=item):
                self.assert_error(InvalidRow, {"part": "breakers", "at": 0}, Row, [item], 1)
                self.assert_error(InvalidRow, {"part": "breakers", "at": 2}, Row, [GOOD, GOOD, item, GOOD], 1)

    def test_a_breaker_consists_of_integers(self):
        for value in NOT_INTEGERS:
            for breaker in ((value, 3, 1), (2, value, 1), (2, 3, value)):
                with self.subTest(breaker=breaker):
                    self.assert_error(InvalidRow, {"part": "breakers", "at": 1}, Row, [GOOD, breaker], 1)

    def test_the_first_item_that_is_no_breaker(self):
        for at in range(12):
            breakers = [GOOD] * at + [(0, 3, 1)] + [None] * (11 - at)
            self.assert_error(InvalidRow, {"part": "breakers", "at": at}, Row, breakers, 1)

    def test_the_step(self):
        for step in (1, 2, MOST - 1, MOST):
            self.assertEqual(Row([], step).step_length(), step)
        for step in NOT_INTEGERS + (0, -1, MOST + 1):
            with self.subTest(step=step):
                self.assert_error(InvalidRow, {"part": "step", "at": -1}, Row, TWO, step)

    def test_the_phase(self):
        for phase in (0, 1, MOST - 1, MOST):
            self.assertEqual(Row([], 1, phase=phase).phase_time(), phase)
        for phase in NOT_INTEGERS + (-1, MOST + 1):
            with self.subTest(phase=phase):
                self.assert_error(InvalidRow, {"part": "phase", "at": -1}, Row, TWO, 1, phase=phase)

    def test_the_arguments_are_checked_in_their_order(self):
        self.assert_error(InvalidRow, {"part": "breakers", "at": 1}, Row, [GOOD, None], 0, phase=-1)
        self.assert_error(InvalidRow, {"part": "breakers", "at": -1}, Row, None, None, phase=None)
        self.assert_error(InvalidRow, {"part": "step", "at": -1}, Row, [GOOD], 0, phase=-1)


class Items(Case):

    def test_the_breakers_by_their_indices(self):
        breakers = [(place + 1, 5, 1) for place in range(12)]
        row = Row(breakers, 1)
        self.assertEqual(len(row), 12)
        self.assertEqual([row[place] for place in range(12)], breakers)
        self.assertIsInstance(row[0], tuple)

    def test_no_index(self):
        for index in NOT_INTEGERS + (-1, -2, 2, 3, 10 ** 31):
            with self.subTest(index=index):
                self.assert_error(InvalidIndex, {"index": index}, lambda: Row(TWO, 1)[index])
        for index in (0, -1, 1):
            self.assert_error(InvalidIndex, {"index": index}, lambda: Row([], 1)[index])


class Sums(Case):

    def test_the_breakers_follow_one_another(self):
        one = Row([(1, 2, 3), (4, 5, 6)], 7, phase=8)
        other = Row([(9, 10, 11)], 7, phase=8)
        self.assertEqual(one + other, Row([(1, 2, 3), (4, 5, 6), (9, 10, 11)], 7, phase=8))
        self.assertEqual(other + one, Row([(9, 10, 11), (1, 2, 3), (4, 5, 6)], 7, phase=8))
        self.assertEqual((one.breaker_list(), other.breaker_list()), ([(1, 2, 3), (4, 5, 6)], [(9, 10, 11)]))

    def test_a_row_without_breakers(self):
        row, empty = Row(TWO, 3, phase=1), Row([], 3, phase=1)
        self.assertEqual([row + empty, empty + row, empty + empty], [row, row, empty])
        self.assertIsNot(row + empty, row)

    def test_12_breakers_and_one_more(self):
        self.assertEqual((Row([GOOD] * 5, 1) + Row([GOOD] * 7, 1)).breaker_list(), [GOOD] * 12)
        for first, second in ((12, 1), (1, 12), (6, 7), (12, 12)):
            one, other = Row([GOOD] * first, 1), Row([GOOD] * second, 1)
            self.assert_error(InvalidRow, {"part": "breakers", "at": -1}, lambda: one + other)

    def test_no_such_row(self):
        row = Row(TWO, 3, phase=1)
        for other in NOT_INTEGERS + (3, TWO, Row([], 4, phase=1), Row([], 3, phase=2), Row([], 3), Row([], 1, phase=3),
                                     Trains([])):
            with self.subTest(other=other):
                self.assert_error(InvalidRow, {"part": "other", "at": -1}, lambda: row + other)

    def test_another_step_comes_before_too_many_breakers(self):
        one, other = Row([GOOD] * 12, 1), Row([GOOD] * 12, 2)
        self.assert_error(InvalidRow, {"part": "other", "at": -1}, lambda: one + other)


class Equality(Case):

    def test_equal_parts(self):
        self.assertTrue(Row(TWO, 3, phase=1) == Row(list(TWO), 3, phase=1))
        self.assertFalse(Row(TWO, 3, phase=1) != Row(list(TWO), 3, phase=1))
        self.assertTrue(Row([], 3) == Row([], 3, phase=0))

    def test_a_different_part(self):
        row = Row(TWO, 3, phase=1)
        for other in (Row(TWO, 3), Row(TWO, 2, phase=1), Row(TWO, 1, phase=3), Row([], 3, phase=1),
                      Row(TWO[:1], 3, phase=1), Row(TWO[::-1], 3, phase=1), Row([(3, 3, 1), (1, 4, 1)], 3, phase=1),
                      Row([(2, 3, 1), (1, 5, 1)], 3, phase=1), Row([(2, 3, 2), (1, 4, 1)], 3, phase=1)):
            self.assertFalse(row == other)
            self.assertTrue(row != other)

    def test_other_objects(self):
        row = Row(TWO, 1)
        for other in NOT_INTEGERS + (TWO, tuple(TWO), (TWO, 1), (TWO, 1, 0), [TWO, 1, 0], 2, Trains([]),
                                     Trains([(0, 1, None)])):
            self.assertFalse(row == other)
            self.assertFalse(other == row)
            self.assertTrue(row != other)


class Requests(Case):

    def test_the_examples(self):
        row = Row(TWO, 1)
        self.assertEqual(first_request(row, 5), 5)
        self.assertEqual(first_request(Row([], 10, phase=3), 14), 2)
        self.assertTrue(13 in Row([], 10, phase=3))

    def test_beside_the_listed_times(self):
        source = seeded("requests")
        for turn in range(60):
            step, phase = source.randint(1, 9), source.randint(0, 20)
            row = Row(random_breakers(source, 3), step, phase=phase)
            times = [phase + number * step for number in range(80)]
            self.assertEqual([request_time(row, number) for number in range(80)], times)
            for time in range(60):
                self.assertIs(time in row, time in times)
                self.assertEqual(first_request(row, time), min(k for k in range(80) if times[k] >= time))

    def test_in_is_for_any_object(self):
        for row in (Row([], 1), Row([], 1, phase=1), Row(TWO, 1)):
            for value in NOT_INTEGERS + (GOOD, -1, -10, row):
                with self.subTest(value=value):
                    self.assertIs(value in row, False)

    def test_times_before_the_phase(self):
        row = Row([], 10, phase=35)
        self.assertEqual([time in row for time in (5, 15, 25, 35, 45, -5, 36)],
                         [False, False, False, True, True, False, False])
        self.assertEqual([first_request(row, time) for time in (0, 5, 24, 25, 26, 34, 35, 36, 45, 46)],
                         [0, 0, 0, 0, 0, 0, 0, 1, 1, 2])

    def test_no_number_of_a_request(self):
        for number in NOT_INTEGERS + (-1, -10 ** 30):
            with self.subTest(number=number):
                self.assert_error(InvalidIndex, {"index": number}, request_time, Row(TWO, 1), number)

    def test_no_time(self):
        for time in NOT_INTEGERS + (-1, -10 ** 30):
            with self.subTest(time=time):
                self.assert_error(InvalidTime, {"time": time}, first_request, Row(TWO, 1, phase=5), time)

    def test_arguments_by_name(self):
        row = Row([], 10, phase=3)
        self.assertEqual(request_time(number=2, row=row), 23)
        self.assertEqual(first_request(time=14, row=row), 2)

    def test_far_times_at_once(self):
        far = 10 ** 499
        row = Row(TWO, 10 ** 30, phase=10 ** 30 - 1)
        self.assertEqual(request_time(row, far), 10 ** 529 + 10 ** 30 - 1)
        self.assertEqual(first_request(row, far), 10 ** 469)
        self.assertEqual(first_request(row, far - 1), 10 ** 469 - 1)
        self.assertTrue(far - 1 in row)
        self.assertFalse(far in row)
        self.assertEqual(first_request(Row([], 1), far), far)
        self.assertEqual(request_time(Row([], 3, phase=2), far), 3 * far + 2)
