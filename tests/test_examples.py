"""The example sessions of the document for rows and trains, as they stand there."""

from breakerrow.errors import InvalidBound, InvalidIndex, InvalidRow, InvalidTrains
from breakerrow.rows import Row, first_request, least_period, periods, raised, slack
from breakerrow.trains import (Trains, count_before, latest_time, next_time, shared, split_after, thinned, time_count,
                               window)
from tests.support import Case


class Rows(Case):

    def test_e01(self):
        row = Row([(2, 3, 1), (1, 4, 1)], 1)
        self.assertEqual([periods(row), slack(row), least_period(row), first_request(Row([], 10, phase=3), 14),
                          13 in Row([], 10, phase=3)], [[1, 3, 6], [0, 2], 4, 2, True])

    def test_e02(self):
        self.assertEqual(raised(Row([(2, 3, 1), (1, 4, 1)], 1)).breaker_list(), [(2, 3, 1), (1, 6, 1)])

    def test_e03(self):
        self.assert_error(InvalidRow, {"part": "breakers", "at": 1}, lambda: Row([(1, 1, 1), (0, 1, 1)], 5))


class TrainsOfTheDocument(Case):

    def setUp(self):
        super().setUp()
        self.t = Trains([(0, 1, 2), (4, 3, 2), (10, 6, None)])

    def test_e201(self):
        self.assertEqual(self.t.train_list(), [(0, 1, 2), (4, 3, 3), (16, 6, None)])

    def test_e202(self):
        self.assertEqual(len(self.t), 3)

    def test_e203(self):
        self.assert_error(InvalidTrains, {"at": 1}, lambda: Trains([(3, 1, 2), (4, 1, 1)]))

    def test_e204(self):
        self.assertEqual(self.t[5], 16)

    def test_e205(self):
        self.assertIs(13 in self.t, False)

    def test_e206(self):
        self.assert_error(InvalidIndex, {"index": -1}, lambda: self.t[-1])

    def test_e207(self):
        self.assertIsNone(time_count(self.t))

    def test_e208(self):
        self.assertEqual(count_before(self.t, 10), 4)

    def test_e209(self):
        self.assertEqual(next_time(self.t, 11), 16)

    def test_e210(self):
        self.assertEqual(latest_time(self.t, 3), 1)

    def test_e211(self):
        self.assertEqual(window(self.t, 4, 11).train_list(), [(4, 3, 3)])

    def test_e212(self):
        self.assertEqual(split_after(self.t, 3)[0].train_list(), [(0, 1, 2), (4, 1, 1)])

    def test_e213(self):
        self.assert_error(InvalidBound, {"part": "after"}, lambda: window(self.t, 3, 2))

    def test_e214(self):
        self.assertEqual(thinned(self.t, 4, 1).train_list(), [(7, 9, 2), (22, 6, None)])

    def test_e215(self):
        self.assert_error(InvalidBound, {"part": "wait"}, lambda: thinned(self.t, 0, 1))

    def test_e216(self):
        self.assertEqual(shared(self.t, Trains([(1, 3, None)])).train_list(), [(1, 3, 4), (16, 6, None)])

    def test_e217(self):
        self.assertIs((window(self.t, 0, 4) + window(self.t, 4, None)) == self.t, True)

    def test_e218(self):
        self.assert_error(InvalidTrains, {"at": -1}, lambda: self.t + self.t)
