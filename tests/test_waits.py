"""Waits of rows with given periods (point 40)."""

import itertools

from breakerrow.errors import InvalidLog
from breakerrow.explained import waits_of
from breakerrow.rows import Row, periods, slack
from tests.support import NOT_INTEGERS, Case, random_breakers, seeded

MOST = 10 ** 30


def row_with(waits, step):
    return Row([(1, wait, 1) for wait in waits], step)


class Waits(Case):

    def test_the_examples(self):
        self.assertEqual(waits_of([1, 3, 6]), [(3, 3), (4, 6)])
        self.assertEqual(waits_of(period_list=[1, 3, 6]), [(3, 3), (4, 6)])
        self.assert_error(InvalidLog, {"at": 1}, waits_of, [4, 6])

    def test_each_wait_between_the_bounds_and_none_beside_them(self):
        source = seeded("waits")
        for turn in range(300):
            row = Row(random_breakers(source, 5), source.randint(1, 5))
            period_list = periods(row)
            bounds = waits_of(period_list)
            self.assertEqual(len(bounds), len(row))
            for waits in ([low for low, high in bounds], [high for low, high in bounds]):
                self.assertEqual(periods(row_with(waits, row.step_length())), period_list)
            for place, (low, high) in enumerate(bounds):
                waits = [breaker[1] for breaker in row.breaker_list()]
                self.assertTrue(low <= waits[place] <= high)
                self.assertEqual(high - waits[place], slack(row)[place])
                for wait in range(1, high + 3):
                    waits[place] = wait
                    found = periods(row_with(waits, row.step_length()))[place + 1] == period_list[place + 1]
                    self.assertEqual(found, low <= wait <= high)

    def test_beside_all_short_lists(self):
        possible = {tuple(periods(row_with(waits, step))) for step in range(1, 7)
                    for waits in itertools.product(range(1, 7), repeat=2)}
        for length in (1, 2, 3):
            beginnings = {period_list[:length] for period_list in possible}
            for period_list in itertools.product(range(1, 7), repeat=length):
                if period_list in beginnings:
                    self.assertEqual(len(waits_of(list(period_list))), length - 1)
                else:
                    at = next(at for at in range(length)
                              if period_list[:at + 1] not in {other[:at + 1] for other in possible})
                    self.assert_error(InvalidLog, {"at": at}, waits_of, list(period_list))

    def test_at_the_greatest_wait(self):
        self.assertEqual(waits_of([MOST]), [])
        self.assertEqual(waits_of([1, MOST]), [(MOST, MOST)])
        self.assertEqual(waits_of([MOST, MOST]), [(1, MOST)])
        self.assertEqual(waits_of([2, MOST]), [(MOST - 1, MOST)])
        self.assertEqual(waits_of([6, 6, MOST + 2]), [(1, 6), (MOST - 3, MOST)])
        self.assertEqual(periods(row_with([6, MOST], 6)), [6, 6, MOST + 2])
        self.assertEqual(waits_of([7, MOST + 6]), [(MOST, MOST)])
        self.assertEqual(waits_of([MOST - 1, 2 * MOST - 2]), [(MOST, MOST)])
        self.assertEqual(waits_of([MOST - 1, 2 * MOST - 2, 2 * MOST - 2]), [(MOST, MOST), (1, MOST)])
        self.assertEqual(periods(row_with([MOST, MOST], MOST - 1)), [MOST - 1, 2 * MOST - 2, 2 * MOST - 2])

    def test_periods_that_are_too_great(self):
        self.assert_error(InvalidLog, {"at": 0}, waits_of, [MOST + 1])
        self.assert_error(InvalidLog, {"at": 0}, waits_of, [10 ** 400, 10 ** 400])
        self.assert_error(InvalidLog, {"at": 1}, waits_of, [1, MOST + 1])
        self.assert_error(InvalidLog, {"at": 1}, waits_of, [MOST, 2 * MOST])
        self.assert_error(InvalidLog, {"at": 1}, waits_of, [7, MOST + 13])
        self.assert_error(InvalidLog, {"at": 1}, waits_of, [6, MOST + 8])
        self.assert_error(InvalidLog, {"at": 2}, waits_of, [MOST - 1, 2 * MOST - 2, 4 * MOST - 4])
        self.assert_error(InvalidLog, {"at": 2}, waits_of, [1, 1, MOST + 1, None])

    def test_great_rows(self):
        source = seeded("great waits")
        for turn in range(300):
            waits = [source.randint(1, 10 ** source.randint(1, 30)) for place in range(source.randint(0, 12))]
            step = source.randint(1, 10 ** source.randint(1, 30))
            period_list = periods(row_with(waits, step))
            bounds = waits_of(period_list)
            for place, (low, high) in enumerate(bounds):
                self.assertTrue(1 <= low <= waits[place] <= high <= MOST)
                self.assertTrue(high in (period_list[place + 1], MOST))
            self.assertEqual(periods(row_with([low for low, high in bounds], step)), period_list)
            self.assertEqual(periods(row_with([high for low, high in bounds], step)), period_list)

    def test_periods_that_are_no_multiples(self):
        for period_list, at in (([4, 6], 1), ([4, 2], 1), ([2, 4, 6], 2), ([2, 4, 4, 2], 3), ([3, 4, None], 1),
                                ([2, 1], 1), ([1, 3, 6, 12, 18, 5], 4)):
            with self.subTest(period_list=period_list):
                self.assert_error(InvalidLog, {"at": at}, waits_of, period_list)

    def test_items_that_are_no_integers_from_1_on(self):
        for value in NOT_INTEGERS + (0, -1, -3, -MOST):
            with self.subTest(value=value):
                self.assert_error(InvalidLog, {"at": 0}, waits_of, [value])
                self.assert_error(InvalidLog, {"at": 0}, waits_of, [value, 3])
                self.assert_error(InvalidLog, {"at": 1}, waits_of, [1, value])
                self.assert_error(InvalidLog, {"at": 2}, waits_of, [1, 3, value, 4, None])

    def test_1_to_13_items(self):
        self.assertEqual(waits_of([5]), [])
        self.assertEqual(waits_of([5] * 13), [(1, 5)] * 12)
        self.assertEqual(waits_of([2 ** place for place in range(13)]),
                         [(2 ** place // 2 + 1, 2 ** place) for place in range(1, 13)])
        for period_list in ([], [5] * 14, [None] * 14, None, 5, True, "", "5", b"5", (), (5,), (1, 3, 6), {}, {1: 1},
                            {1}, object(), range(1, 3), iter([1]), Row([], 1)):
            with self.subTest(period_list=period_list):
                self.assert_error(InvalidLog, {"at": -1}, waits_of, period_list)

    def test_the_list_is_not_modified(self):
        period_list = [1, 3, 6]
        waits_of(period_list).clear()
        self.assertEqual((period_list, waits_of(period_list)), ([1, 3, 6], [(3, 3), (4, 6)]))
