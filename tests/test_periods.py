"""Periods at the service while it is down (points 6, 8 and 9)."""

import itertools

from breakerrow.errors import InvalidRow
from breakerrow.rows import Row, least_period, periods, raised, row_period, slack
from tests.support import Case, passes_while_down, random_breakers, seeded

MOST = 10 ** 30
EXAMPLE = [(2, 3, 1), (1, 4, 1)]
FUNCTIONS = (periods, row_period, slack, raised, least_period)


def with_wait(breakers, at, wait):
    failures, old, successes = breakers[at]
    return breakers[:at] + [(failures, wait, successes)] + breakers[at + 1:]


class Playing(Case):

    def test_requests_that_are_sent_one_by_one_pass_with_the_periods(self):
        source = seeded("played")
        for turn in range(150):
            breakers, step, phase = random_breakers(source, 4), source.randint(1, 5), source.randint(0, 9)
            row = Row(breakers, step, phase=phase)
            told = periods(row)
            self.assertEqual(len(told), len(breakers) + 1)
            last, passed = passes_while_down(breakers, step, phase, 3000)
            self.assertIsNotNone(last)
            self.assertEqual(told[0], step)
            for period, times in zip(told[1:], passed):
                behind = [time for time in times if time > last]
                self.assertGreater(len(behind), 20)
                self.assertEqual({later - time for time, later in zip(behind, behind[1:])}, {period})

    def test_the_failures_do_not_change_the_periods(self):
        breakers = [(40, 5, 9), (1, 7, 1), (17, 2, 3)]
        last, passed = passes_while_down(breakers, 2, 1, 5000)
        behind = [[time for time in times if time > last][:3] for times in passed]
        self.assertEqual([[b - a, c - b] for a, b, c in behind], [[6, 6], [12, 12], [12, 12]])
        self.assertEqual(periods(Row(breakers, 2, phase=1)), [2, 6, 12, 12])


class Periods(Case):

    def test_the_example(self):
        row = Row(EXAMPLE, 1)
        self.assertEqual(periods(row), [1, 3, 6])
        self.assertEqual(row_period(row), 6)

    def test_edges_of_rounding(self):
        for wait, period in ((1, 5), (4, 5), (5, 5), (6, 10), (10, 10), (11, 15)):
            self.assertEqual(periods(Row([(1, wait, 1)], 5)), [5, period])
            self.assertEqual(row_period(Row([(1, wait, 1)], 5)), period)

    def test_the_period_does_not_depend_on_phase_failures_and_successes(self):
        self.assertEqual(periods(Row([(9, 3, 8), (7, 4, 6)], 1, phase=5)), [1, 3, 6])

    def test_no_breaker(self):
        row = Row([], 7, phase=3)
        self.assertEqual([periods(row), row_period(row), slack(row), least_period(row)], [[7], 7, [], 7])
        self.assertEqual(raised(row), row)
        row = Row([], 1)
        self.assertEqual([periods(row), row_period(row), slack(row), least_period(row)], [[1], 1, [], 1])

    def test_returned_lists_belong_to_the_caller(self):
        row = Row(EXAMPLE, 1)
        for function, told in ((periods, [1, 3, 6]), (slack, [0, 2])):
            returned = function(row)
            self.assertIsInstance(returned, list)
            returned.append(0)
            returned[0] = 99
            self.assertEqual(function(row), told)
        raised(row)
        self.assertEqual(row.breaker_list(), EXAMPLE)

    def test_arguments_by_name(self):
        self.assertEqual([function(row=Row(EXAMPLE, 1)) for function in FUNCTIONS],
                         [[1, 3, 6], 6, [0, 2], Row([(2, 3, 1), (1, 6, 1)], 1), 4])

    def test_numbers_of_thirty_digits_at_once(self):
        breakers = [(10 ** 12, MOST - place, 10 ** 12) for place in range(12)]
        told = periods(Row(breakers, 1))
        # The first period is 10 ** 30, which is at least all the other waits.
        self.assertEqual(told, [1] + [MOST] * 12)
        rising = [(10 ** 12, MOST - 12 + place, 1) for place in range(12)]
        self.assertEqual(periods(Row(rising, 1)), [1, MOST - 12] + [2 * (MOST - 12)] * 11)
        self.assertEqual(least_period(Row(rising, 7)), (MOST - 1 + 6) // 7 * 7)
        self.assertEqual(row_period(Row([(1, MOST, 1)], MOST - 1)), 2 * (MOST - 1))
        self.assertEqual(slack(Row([(1, MOST, 1)], MOST - 1)), [MOST - 2])
        self.assertEqual(periods(Row([(1, 1, 1)], MOST)), [MOST, MOST])


class Slack(Case):

    def test_the_example(self):
        self.assertEqual(slack(Row(EXAMPLE, 1)), [0, 2])

    def test_so_much_greater_and_no_more(self):
        source = seeded("slack")
        for turn in range(60):
            breakers, step = random_breakers(source, 5), source.randint(1, 7)
            told = periods(Row(breakers, step))
            for at, more in enumerate(slack(Row(breakers, step))):
                wait = breakers[at][1]
                self.assertGreaterEqual(more, 0)
                self.assertEqual(periods(Row(with_wait(breakers, at, wait + more), step)), told)
                self.assertNotEqual(periods(Row(with_wait(breakers, at, wait + more + 1), step)), told)


class Raised(Case):

    def test_the_example(self):
        self.assertEqual(raised(Row(EXAMPLE, 1)), Row([(2, 3, 1), (1, 6, 1)], 1))

    def test_waits_become_periods_and_all_else_stays(self):
        source = seeded("raised")
        for turn in range(60):
            row = Row(random_breakers(source, 5), source.randint(1, 7), phase=source.randint(0, 9))
            result = raised(row)
            told = periods(row)
            self.assertEqual([breaker[1] for breaker in result.breaker_list()], told[1:])
            self.assertEqual([(breaker[0], breaker[2]) for breaker in result.breaker_list()],
                             [(breaker[0], breaker[2]) for breaker in row.breaker_list()])
            self.assertEqual((result.step_length(), result.phase_time()), (row.step_length(), row.phase_time()))
            self.assertEqual(periods(result), told)
            self.assertEqual(raised(result), result)

    def test_a_period_at_the_limit(self):
        row = Row([(1, MOST - 3, 1), (1, 1, 1)], 10, phase=4)
        self.assertEqual(raised(row), Row([(1, MOST, 1), (1, MOST, 1)], 10, phase=4))
        self.assertEqual(raised(Row([(1, 1, 1)], MOST)), Row([(1, MOST, 1)], MOST))

    def test_the_first_period_beyond_the_limit(self):
        # 10 ** 30 leaves the rest 1 by 3, so that the next multiple of 3 is beyond it.
        over = (1, MOST, 1)
        for breakers, step, at in (([over], 3, 0), ([(1, 3, 1), over], 1, 1), ([(1, 3, 1), over, over], 1, 1),
                                   ([(1, 1, 1), (1, 2, 1), (1, 6, 1), over], 1, 3), ([over], MOST - 1, 0)):
            self.assert_error(InvalidRow, {"part": "breakers", "at": at}, raised, Row(breakers, step))
        self.assertEqual(raised(Row([(1, MOST - 1, 1)], 3)), Row([(1, MOST - 1, 1)], 3))


class LeastPeriod(Case):

    def test_the_example(self):
        self.assertEqual(least_period(Row(EXAMPLE, 1)), 4)

    def test_the_least_of_all_orders(self):
        source = seeded("least")
        for turn in range(40):
            breakers, step = random_breakers(source, 5), source.randint(1, 20)
            best = min(row_period(Row(list(order), step)) for order in itertools.permutations(breakers))
            self.assertEqual(least_period(Row(breakers, step, phase=3)), best)

    def test_edges_of_rounding(self):
        for wait, period in ((1, 5), (5, 5), (6, 10), (10, 10), (11, 15)):
            self.assertEqual(least_period(Row([(1, 2, 1), (1, wait, 1)], 5)), period)
        self.assertEqual([least_period(Row([(1, wait, 1)], 1)) for wait in (1, 2, 3)], [1, 2, 3])
