"""The example sessions of the document, as they stand there."""

from breakerrow.delays import Delays, count_within, first_above, greatest_delay, mean_delay, settled, total_delay
from breakerrow.errors import (InvalidBound, InvalidCall, InvalidIndex, InvalidLog, InvalidOutages, InvalidRow,
                               InvalidText, InvalidTime, InvalidTrains)
from breakerrow.explained import explanations, first_conflict, forecast, log_of, waits_of
from breakerrow.orders import best_order, best_raise, harmful_lowerings, removal_periods, reordered, worst_order
from breakerrow.outages import Timeline, arrivals, first_success, openings, spell_at, starts
from breakerrow.playing import Playing, outcomes, replay
from breakerrow.routes import Routes, common_openings, first_opening, longest_failure, served
from breakerrow.rows import Row, first_request, least_period, periods, raised, row_period, slack
from breakerrow.states import came, failed, outcome, rejected, states_at, succeeded, time_open
from breakerrow.texts import format_row, parse_row, same_text
from breakerrow.trains import (Trains, count_before, latest_time, next_time, shared, split_after, thinned, time_count,
                               window)
from tests.support import Case


class Rows(Case):

    def test_e01(self):
        row = Row([(2, 3, 1), (1, 4, 1)], 1)
        self.assertEqual([periods(row), slack(row), least_period(row), first_request(Row([], 10, phase=3), 14),
                          13 in Row([], 10, phase=3)], [[1, 3, 6], [0, 2], 4, 2, True])

    def test_e02(self):
        self.assertEqual(raised(Row([(2, 3, 1), (1, 4, 1)], 1)).breaker_list(), [(2, 3, 1), (1, 6, 1)])

    def test_e03(self):
        self.assert_error(InvalidRow, {"part": "breakers", "at": 1}, lambda: Row([(1, 1, 1), (0, 1, 1)], 5))


class TrainsOfTheDocument(Case):

    def setUp(self):
        super().setUp()
        self.t = Trains([(0, 1, 2), (4, 3, 2), (10, 6, None)])

    def test_e201(self):
        self.assertEqual(self.t.train_list(), [(0, 1, 2), (4, 3, 3), (16, 6, None)])

    def test_e202(self):
        self.assertEqual(len(self.t), 3)

    def test_e203(self):
        self.assert_error(InvalidTrains, {"at": 1}, lambda: Trains([(3, 1, 2), (4, 1, 1)]))

    def test_e204(self):
        self.assertEqual(self.t[5], 16)

    def test_e205(self):
        self.assertIs(13 in self.t, False)

    def test_e206(self):
        self.assert_error(InvalidIndex, {"index": -1}, lambda: self.t[-1])

    def test_e207(self):
        self.assertIsNone(time_count(self.t))

    def test_e208(self):
        self.assertEqual(count_before(self.t, 10), 4)

    def test_e209(self):
        self.assertEqual(next_time(self.t, 11), 16)

    def test_e210(self):
        self.assertEqual(latest_time(self.t, 3), 1)

    def test_e211(self):
        self.assertEqual(window(self.t, 4, 11).train_list(), [(4, 3, 3)])

    def test_e212(self):
        self.assertEqual(split_after(self.t, 3)[0].train_list(), [(0, 1, 2), (4, 1, 1)])

    def test_e213(self):
        self.assert_error(InvalidBound, {"part": "after"}, lambda: window(self.t, 3, 2))

    def test_e214(self):
        self.assertEqual(thinned(self.t, 4, 1).train_list(), [(7, 9, 2), (22, 6, None)])

    def test_e215(self):
        self.assert_error(InvalidBound, {"part": "wait"}, lambda: thinned(self.t, 0, 1))

    def test_e216(self):
        self.assertEqual(shared(self.t, Trains([(1, 3, None)])).train_list(), [(1, 3, 4), (16, 6, None)])

    def test_e217(self):
        self.assertIs((window(self.t, 0, 4) + window(self.t, 4, None)) == self.t, True)

    def test_e218(self):
        self.assert_error(InvalidTrains, {"at": -1}, lambda: self.t + self.t)


class Orders(Case):

    def test_e04(self):
        row = Row([(2, 3, 1), (1, 4, 1)], 1)
        self.assertEqual([best_order(row), worst_order(row), row_period(reordered(row, [1, 0])), removal_periods(row),
                          best_raise(row, 0, 9)], [(4, [1, 0]), (6, [0, 1]), 4, [4, 3], (4, 4)])

    def test_e05(self):
        self.assertEqual(harmful_lowerings(Row([(1, 4, 1), (1, 4, 1)], 1), 0), [(3, 3)])


class Outages(Case):

    def setUp(self):
        super().setUp()
        self.row = Row([(2, 3, 1), (1, 4, 1)], 1)
        self.t = Timeline(self.row, [(10, 25)])
        self.slow = Timeline(Row([(1, 5, 3)], 2), [(0, 4), (8, 9)])

    def test_e301(self):
        self.assertEqual([self.t[0], self.slow[0], self.slow[1], len(self.slow)],
                         [(10, 26, 26), (0, 6, None), (8, 14, 18), 2])

    def test_e302(self):
        self.assertEqual([spell_at(self.t, 25), first_success(self.t, 9), first_success(self.t, 12)], [0, 9, 26])

    def test_e303(self):
        self.assertEqual([arrivals(self.t, 0, 1).train_list(), arrivals(self.t, 0, 2).train_list()],
                         [[(10, 1, 2), (14, 3, 4)], [(10, 4, 2), (20, 1, 1)]])

    def test_e304(self):
        self.assertEqual([openings(self.t, 0), starts(self.slow, 1)], [[11, 10], [("half", 1)]])

    def test_e305(self):
        self.assert_error(InvalidOutages, {"at": 1}, lambda: Timeline(Row([], 1), [(0, 4), (4, 9)]))


class DelaysOfTheDocument(Case):

    def setUp(self):
        super().setUp()
        self.d = Delays(Row([(2, 3, 1), (1, 4, 1)], 1), [], 10)

    def test_e306(self):
        self.assertEqual([self.d[11], self.d[25], greatest_delay(self.d, 11, 30), first_above(self.d, 3, 11)],
                         [3, 1, (5, 15), 15])

    def test_e307(self):
        self.assertEqual([total_delay(self.d, 11, 20), mean_delay(self.d, 11, 20), count_within(self.d, 1, 11, 20),
                          settled(self.d)], [21, (21, 10), 4, (14, 6)])

    def test_e308(self):
        self.assert_error(InvalidTime, {"time": 10}, lambda: self.d[10])


class States(Case):

    def setUp(self):
        super().setUp()
        self.tl = Timeline(Row([(3, 5, 2)], 1), [(10, 20)])

    def test_e219(self):
        self.assertEqual(states_at(self.tl, 11), [("closed", 2)])

    def test_e220(self):
        self.assertEqual(states_at(self.tl, 18), [("open", 17)])

    def test_e221(self):
        self.assertEqual(states_at(self.tl, 22), [("half", 1)])

    def test_e222(self):
        self.assertEqual(came(self.tl, 1, 10, 23), 5)

    def test_e223(self):
        self.assertEqual(rejected(self.tl, 0, 10, 23), 8)

    def test_e224(self):
        self.assert_error(InvalidIndex, {"index": 1}, rejected, self.tl, 1, 10, 23)

    def test_e225(self):
        self.assertEqual(failed(self.tl, 10, 23), 12)

    def test_e226(self):
        self.assertEqual(succeeded(self.tl, 10, 23), 1)

    def test_e227(self):
        self.assertEqual(outcome(self.tl, 17), ("failed",))

    def test_e228(self):
        self.assertEqual(outcome(self.tl, 18), ("rejected", 0))

    def test_e229(self):
        self.assertEqual(time_open(self.tl, 0, 0, 100), 10)


class RoutesOfTheDocument(Case):

    def test_e06(self):
        routes = Routes([(2, 5, 1)], [([], [(0, 100)]), ([], [])], [0, 0, 1], 1)
        self.assertEqual([common_openings(routes, 8), served(routes, 8), longest_failure(routes, [0]),
                          first_opening(routes, [0]), first_opening(routes, [1])],
                         [[(1, 0), (6, 0)], [(0, 6), (0, 2)], 2, (1, [0]), None])


class Texts(Case):

    def test_e07(self):
        self.assertEqual([format_row(Row([(2, 3, 1)], 10)), same_text('row 10 0', 'row 10 1')],
                         ['row 10 0\nbreaker 2 3 1', False])

    def test_e08(self):
        self.assert_error(InvalidText, {"line": 1, "word": 2}, parse_row, 'row 10 0\nbreaker 2 x 1')

    def test_e09(self):
        self.assert_error(InvalidText, {"line": 0, "word": 2}, parse_row, 'row 10')


class Logs(Case):

    def setUp(self):
        super().setUp()
        self.log = log_of((2, 4, 1), [0, 1, 3, 6, 8, 9])

    def test_e309(self):
        self.assertEqual([self.log, explanations(self.log)],
                         [[(0, True), (1, True), (3, False), (6, True), (8, False), (9, False)], [(2, 4, 5)]])

    def test_e310(self):
        self.assertEqual([first_conflict(self.log + [(10, False), (11, False)]), forecast(self.log, 10),
                          forecast(self.log, 11)], [7, 'either', 'pass'])

    def test_e311(self):
        self.assertEqual(waits_of([1, 3, 6]), [(3, 3), (4, 6)])

    def test_e312(self):
        self.assert_error(InvalidLog, {"at": 1}, waits_of, [4, 6])


class PlayingOfTheDocument(Case):

    def setUp(self):
        super().setUp()
        self.p = Playing(Row([(2, 3, 1)], 1))

    def test_e230(self):
        self.assertEqual(self.p.request("down"), ('failed',))

    def test_e231(self):
        self.p.request("down"), self.p.request("down")
        self.assertEqual(self.p.request("up"), ('rejected', 0))

    def test_e232(self):
        self.p.request("down"), self.p.request("down")
        self.assertEqual(self.p.state_list(), [('open', 1)])

    def test_e233(self):
        self.assertIs(self.p.is_whole(), True)

    def test_e234(self):
        self.p.request("up")
        self.assertEqual(self.p.log(), ['up'])

    def test_e235(self):
        self.assert_error(InvalidCall, {"call": "Up"}, self.p.request, "Up")

    def test_e236(self):
        self.assert_error(InvalidBound, {"part": "count"}, self.p.undo, 1)

    def test_e237(self):
        self.assertEqual(outcomes(Row([(1, 2, 1)], 1), ["down", "up", "up"]),
                         [('failed',), ('rejected', 0), ('served',)])

    def test_e238(self):
        self.assert_error(InvalidLog, {"at": 1}, replay, Row([], 1), ["up", "no"])
