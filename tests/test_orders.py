"""Orders (points 31 and 32), removals and other waits (point 33), lowerings (point 34) and raises (point 35)."""

import itertools

from breakerrow import orders as module
from breakerrow.errors import InvalidBound, InvalidIndex, LimitExceeded
from breakerrow.orders import (best_order, best_raise, harmful_lowerings, removal_periods, reordered, with_wait,
                               without, worst_order)
from breakerrow.rows import Row, least_period, row_period
from tests.support import NOT_INTEGERS, Case, random_breakers, seeded

MOST = 10 ** 30
ROW = Row([(2, 3, 1), (1, 4, 1)], 1)
EQUAL = Row([(1, 4, 1), (1, 4, 1)], 1)
NO_INDICES = NOT_INTEGERS + (-1, 2, 3, MOST)


def random_row(source, most=5):
    return Row(random_breakers(source, most), source.randint(1, 5), phase=source.randint(0, 9))


def permuted(row, order):
    breakers = row.breaker_list()
    return Row([breakers[at] for at in order], row.step_length(), phase=row.phase_time())


def changed(row, index, wait):
    """Return the row in which a breaker has another wait."""
    breakers = row.breaker_list()
    breakers[index] = (breakers[index][0], wait, breakers[index][2])
    return Row(breakers, row.step_length(), phase=row.phase_time())


def in_ranges(numbers):
    """Return ascending numbers as ranges, as few as possible."""
    found = []
    for number in numbers:
        if found and found[-1][1] == number - 1:
            found[-1] = (found[-1][0], number)
        else:
            found.append((number, number))
    return found


def harms(row, index):
    """List the lower waits that harm, wait by wait."""
    own = row_period(row)
    return in_ranges([wait for wait in range(1, row[index][1]) if row_period(changed(row, index, wait)) > own])


def scaled(row, scale):
    return Row([(failures, wait * scale, successes) for failures, wait, successes in row.breaker_list()],
               row.step_length() * scale, phase=row.phase_time())


class Reordered(Case):

    def test_the_example(self):
        self.assertEqual(row_period(reordered(ROW, [1, 0])), 4)

    def test_all_orders(self):
        row = Row([(1, 2, 3), (4, 5, 6), (7, 8, 9), (1, 1, 1)], 7, phase=3)
        for order in itertools.permutations(range(4)):
            self.assertEqual(reordered(row, list(order)), permuted(row, order))
        self.assertEqual(row, Row([(1, 2, 3), (4, 5, 6), (7, 8, 9), (1, 1, 1)], 7, phase=3))

    def test_breaker_i_of_the_result_is_breaker_order_i_of_the_row(self):
        row = Row([(place + 1, 1, 1) for place in range(12)], 1)
        result = reordered(order=[3, 1, 2, 11, 10, 9, 8, 7, 6, 5, 4, 0], row=row)
        self.assertEqual([breaker[0] for breaker in result.breaker_list()], [4, 2, 3, 12, 11, 10, 9, 8, 7, 6, 5, 1])

    def test_no_breakers(self):
        row = Row([], 3, phase=2)
        self.assertEqual(reordered(row, []), row)
        self.assert_error(InvalidBound, {"part": "order"}, reordered, row, [0])

    def test_other_values(self):
        for order in (None, 5, True, "01", b"01", (0, 1), {0, 1}, {0: 1, 1: 0}, range(2), object(), iter([0, 1]), ROW,
                      [], [0], [0, 0], [1, 1], [0, 2], [1, 2], [-1, 0], [0, 1, 2], [0, 1, 0], [0, 1, None],
                      [True, False], [0, True], [False, 1], ["0", "1"], [[0], [1]], [None, 0], [0, {}], [(0, 1)],
                      [[0, 1]]):
            with self.subTest(order=order):
                self.assert_error(InvalidBound, {"part": "order"}, reordered, ROW, order)
        for value in NOT_INTEGERS:
            self.assert_error(InvalidBound, {"part": "order"}, reordered, ROW, [1, value])
            self.assert_error(InvalidBound, {"part": "order"}, reordered, Row([(1, 1, 1)], 1), [value])

    def test_the_passed_list_is_not_modified(self):
        order = [1, 0]
        reordered(ROW, order)
        self.assertEqual(order, [1, 0])


class BestAndWorst(Case):

    def test_the_examples(self):
        self.assertEqual([best_order(ROW), worst_order(ROW)], [(4, [1, 0]), (6, [0, 1])])

    def test_beside_all_orders(self):
        source = seeded("orders")
        for turn in range(150):
            row = random_row(source)
            ways = [(row_period(permuted(row, order)), list(order))
                    for order in itertools.permutations(range(len(row)))]
            best, worst = min(ways)[0], max(ways)[0]
            self.assertEqual(best_order(row), (best, min(order for period, order in ways if period == best)))
            self.assertEqual(worst_order(row), (worst, min(order for period, order in ways if period == worst)))
            self.assertEqual(best_order(row)[0], least_period(row))

    def test_seven_breakers(self):
        row = Row([(1, wait, 1) for wait in (5, 11, 3, 17, 2, 13, 7)], 2)
        ways = [(row_period(permuted(row, order)), list(order)) for order in itertools.permutations(range(7))]
        worst = max(ways)[0]
        self.assertEqual(best_order(row), min(ways))
        self.assertEqual(worst_order(row), (worst, min(order for period, order in ways if period == worst)))

    def test_equal_breakers(self):
        row = Row([(1, 4, 1)] * 7, 3)
        self.assertEqual([best_order(row), worst_order(row)], [(6, [0, 1, 2, 3, 4, 5, 6])] * 2)

    def test_great_waits(self):
        row = Row([(1, 3 * 10 ** 29, 1), (1, 4 * 10 ** 29, 1), (1, MOST, 1)], 1)
        self.assertEqual(best_order(row), (MOST, [2, 0, 1]))
        self.assertEqual(worst_order(row), (12 * 10 ** 29, [0, 1, 2]))

    def test_eight_breakers(self):
        for number in (8, 9, 12):
            row = Row([(1, 1, 1)] * number, 1)
            self.assert_error(LimitExceeded, {"limit": 7}, best_order, row)
            self.assert_error(LimitExceeded, {"limit": 7}, worst_order, row=row)

    def test_no_breakers(self):
        self.assertEqual([best_order(row=Row([], 9)), worst_order(row=Row([], 9))], [(9, [])] * 2)

    def test_returned_lists_belong_to_the_caller(self):
        for function in (best_order, worst_order, removal_periods):
            kept = function(ROW)
            returned = function(ROW)
            (returned if isinstance(returned, list) else returned[1]).append(5)
            self.assertEqual(function(ROW), kept)


class Changes(Case):

    def test_the_example(self):
        self.assertEqual(removal_periods(ROW), [4, 3])

    def test_without(self):
        row = Row([(1, 2, 3), (4, 5, 6), (7, 8, 9)], 7, phase=3)
        self.assertEqual(without(row, 0), Row([(4, 5, 6), (7, 8, 9)], 7, phase=3))
        self.assertEqual(without(row, 1), Row([(1, 2, 3), (7, 8, 9)], 7, phase=3))
        self.assertEqual(without(index=2, row=row), Row([(1, 2, 3), (4, 5, 6)], 7, phase=3))
        self.assertEqual(without(Row([(1, 2, 3)], 7), 0), Row([], 7))
        self.assertEqual(len(row), 3)

    def test_with_wait(self):
        row = Row([(1, 2, 3), (4, 5, 6), (7, 8, 9)], 7, phase=3)
        self.assertEqual(with_wait(row, 0, MOST), Row([(1, MOST, 3), (4, 5, 6), (7, 8, 9)], 7, phase=3))
        self.assertEqual(with_wait(row, 1, 5), row)
        self.assertEqual(with_wait(wait=1, index=2, row=row), Row([(1, 2, 3), (4, 5, 6), (7, 1, 9)], 7, phase=3))
        self.assertEqual(row, Row([(1, 2, 3), (4, 5, 6), (7, 8, 9)], 7, phase=3))

    def test_removal_periods(self):
        source = seeded("removals")
        for turn in range(150):
            row = random_row(source, 6)
            expected = []
            for index in range(len(row)):
                breakers = row.breaker_list()
                breakers.pop(index)
                expected.append(row_period(Row(breakers, row.step_length())))
            self.assertEqual(removal_periods(row=row), expected)
        self.assertEqual(removal_periods(Row([], 5)), [])

    def test_values_that_are_no_index(self):
        for index in NO_INDICES:
            with self.subTest(index=index):
                self.assert_error(InvalidIndex, {"index": index}, without, ROW, index)
                self.assert_error(InvalidIndex, {"index": index}, with_wait, ROW, index, 5)
                self.assert_error(InvalidIndex, {"index": index}, with_wait, ROW, index, 0)
        for function in (without, harmful_lowerings):
            self.assert_error(InvalidIndex, {"index": 0}, function, Row([], 5), 0)
        self.assert_error(InvalidIndex, {"index": 0}, with_wait, Row([], 5), 0, 0)

    def test_values_that_are_no_wait(self):
        for wait in NOT_INTEGERS + (0, -1, MOST + 1):
            with self.subTest(wait=wait):
                self.assert_error(InvalidBound, {"part": "wait"}, with_wait, ROW, 0, wait)
                self.assert_error(InvalidBound, {"part": "wait"}, with_wait, ROW, 1, wait)

    def test_where_all_is_defined(self):
        for name in ("reordered", "best_order", "worst_order", "without", "with_wait", "removal_periods",
                     "harmful_lowerings", "best_raise"):
            self.assertEqual(getattr(module, name).__module__, "breakerrow.orders")


class Lowerings(Case):

    def test_the_example(self):
        self.assertEqual(harmful_lowerings(EQUAL, 0), [(3, 3)])

    def test_beside_all_lower_waits(self):
        source = seeded("lowerings")
        lengths = set()
        for turn in range(400):
            breakers = [(1, source.randint(1, source.choice((6, 60))), 1) for place in range(source.randint(1, 5))]
            row = Row(breakers, source.randint(1, 5), phase=2)
            for index in range(len(row)):
                told = harmful_lowerings(row, index)
                self.assertEqual(told, harms(row, index))
                lengths.add(len(told))
        self.assertGreaterEqual(lengths, {0, 1, 2, 3})

    def test_great_numbers_that_are_multiples_of_small_ones(self):
        source = seeded("great lowerings")
        scale = 10 ** 28
        for turn in range(60):
            breakers = [(1, source.randint(1, 60), 1) for place in range(source.randint(1, 5))]
            row = Row(breakers, source.randint(1, 5))
            for index in range(len(row)):
                # A wait is rounded up as the multiple of the scale above it.
                expected = [((first - 1) * scale + 1, last * scale) for first, last in harms(row, index)]
                self.assertEqual(harmful_lowerings(scaled(row, scale), index), expected)

    def test_no_later_breaker_and_the_last_one(self):
        self.assertEqual(harmful_lowerings(Row([(1, 1000, 1)], 1), 0), [])
        self.assertEqual([harmful_lowerings(ROW, index) for index in (0, 1)], [[], []])
        self.assertEqual(harmful_lowerings(index=0, row=Row([(1, 1, 1), (1, 9, 1)], 1)), [])

    def test_the_last_range_ends_below_the_own_period(self):
        # With a wait from 1 to 5 the period is 10, too; with 6 to 10 it is 10, and with 11 to 15 it is 15 and then 30.
        row = Row([(1, 17, 1), (1, 20, 1)], 5)
        self.assertEqual(harmful_lowerings(row, 0), [(11, 15)])
        self.assertEqual(harmful_lowerings(row, 1), [])

    def test_at_the_limit_and_beyond_it(self):
        for unit in (1, 3, 10 ** 26):
            for later in ([], [(1, 2001 * unit, 1)]):
                row = Row([(1, 2001 * unit, 1)] + later, unit)
                expected = harms(Row([(1, 2001, 1), (1, 2001, 1)], 1), 0) if later else []
                expected = [((first - 1) * unit + 1, last * unit) for first, last in expected]
                self.assertEqual(harmful_lowerings(row, 0), expected)
                row = Row([(1, 2001 * unit + 1, 1)] + later, unit)
                self.assert_error(LimitExceeded, {"limit": 2000}, harmful_lowerings, row, 0)
        # What counts is what comes to the breaker, not the step.
        row = Row([(1, 10, 1), (1, 20010, 1)], 1)
        self.assertEqual(harmful_lowerings(row, 1), [])
        self.assert_error(LimitExceeded, {"limit": 2000}, harmful_lowerings, Row([(1, 10, 1), (1, 20011, 1)], 1), 1)
        self.assert_error(LimitExceeded, {"limit": 2000}, harmful_lowerings, Row([(1, MOST, 1)], 1), 0)

    def test_at_the_limit_at_once(self):
        row = Row([(1, 2001 * 10 ** 26 - 5 * place, 1) for place in range(12)], 10 ** 26)
        self.assertEqual(len(harmful_lowerings(row, 0)) > 0, True)

    def test_values_that_are_no_index(self):
        for index in NO_INDICES:
            with self.subTest(index=index):
                self.assert_error(InvalidIndex, {"index": index}, harmful_lowerings, ROW, index)
                self.assert_error(InvalidIndex, {"index": index}, harmful_lowerings, Row([(1, MOST, 1)] * 2, 1), index)


class Raises(Case):

    def test_the_example(self):
        self.assertEqual(best_raise(ROW, 0, 9), (4, 4))

    def test_beside_all_waits(self):
        source = seeded("raises")
        better = 0
        for turn in range(300):
            row = random_row(source)
            for index in range(len(row)):
                wait = row[index][1]
                most = wait + source.choice((0, source.randint(0, 5), source.randint(0, 40)))
                ways = [(row_period(changed(row, index, other)), other) for other in range(wait, most + 1)]
                self.assertEqual(best_raise(row, index, most), min(ways))
                better += min(ways)[1] > wait
        self.assertGreater(better, 30)

    def test_great_numbers_that_are_multiples_of_small_ones(self):
        source = seeded("great raises")
        scale = 10 ** 28
        for turn in range(60):
            row = Row([(1, source.randint(1, 60), 1) for place in range(source.randint(1, 5))], source.randint(1, 5))
            for index in range(len(row)):
                wait = row[index][1]
                most = source.randint(wait, 100)
                period, best = min((row_period(changed(row, index, other)), other) for other in range(wait, most + 1))
                least = wait * scale if best == wait else (best - 1) * scale + 1
                self.assertEqual(best_raise(scaled(row, scale), index, most * scale), (period * scale, least))

    def test_only_to_the_own_wait(self):
        self.assertEqual(best_raise(ROW, 0, 3), (6, 3))
        self.assertEqual(best_raise(ROW, 1, 4), (6, 4))
        self.assertEqual(best_raise(Row([(1, MOST, 1)], 7), 0, MOST), ((MOST + 6) // 7 * 7, MOST))

    def test_by_name(self):
        self.assertEqual(best_raise(most=9, index=0, row=ROW), (4, 4))

    def test_the_passed_bound_is_rounded_up(self):
        # The periods of the first breaker are the multiples of 10; with 20 that of the second one is 20 as well.
        row = Row([(1, 8, 1), (1, 15, 1)], 10)
        self.assertEqual(best_raise(row, 0, 10), (20, 8))
        row = Row([(1, 15, 1), (1, 30, 1)], 10)
        self.assertEqual([best_raise(row, 0, most) for most in (15, 20, 21, 30)],
                         [(40, 15), (40, 15), (30, 21), (30, 21)])

    def test_at_the_limit_and_beyond_it(self):
        for unit in (1, 3, 10 ** 26):
            row = Row([(1, unit, 1), (1, 2001 * unit, 1)], unit)
            self.assertEqual(best_raise(row, 0, 2001 * unit), (2001 * unit, unit))
            self.assert_error(LimitExceeded, {"limit": 2000}, best_raise, row, 0, 2001 * unit + 1)
            row = Row([(1, 2 * unit, 1), (1, 2001 * unit, 1)], unit)
            self.assertEqual(best_raise(row, 0, 2002 * unit), (2001 * unit, 2 * unit + 1))
            self.assert_error(LimitExceeded, {"limit": 2000}, best_raise, row, 0, 2002 * unit + 1)
        # The own wait may be far behind the first period.
        row = Row([(1, 5001, 1), (1, 7001, 1)], 1)
        self.assertEqual(best_raise(row, 0, 7001), (7001, 7001))
        self.assert_error(LimitExceeded, {"limit": 2000}, best_raise, row, 0, 7002)
        # What counts is what comes to the breaker, not the step.
        row = Row([(1, 10, 1), (1, 5, 1)], 1)
        self.assertEqual(best_raise(row, 1, 20010), (10, 5))
        self.assert_error(LimitExceeded, {"limit": 2000}, best_raise, row, 1, 20011)

    def test_values_that_are_no_index_come_first(self):
        for index in NO_INDICES:
            with self.subTest(index=index):
                self.assert_error(InvalidIndex, {"index": index}, best_raise, ROW, index, 9)
                self.assert_error(InvalidIndex, {"index": index}, best_raise, ROW, index, None)

    def test_values_that_are_no_bound(self):
        for most in NOT_INTEGERS + (-1, 0, 2, MOST + 1):
            with self.subTest(most=most):
                self.assert_error(InvalidBound, {"part": "most"}, best_raise, ROW, 0, most)
                self.assert_error(InvalidBound, {"part": "most"}, best_raise, ROW, 1, most)
        self.assert_error(InvalidBound, {"part": "most"}, best_raise, Row([(1, 1, 1)], 1), 0, True)
        self.assert_error(LimitExceeded, {"limit": 2000}, best_raise, ROW, 0, MOST)
