"""Timelines and their outages (point 16), and spells (points 17 to 20)."""

from breakerrow import outages as module
from breakerrow.errors import InvalidIndex, InvalidOutages, InvalidTime
from breakerrow.outages import Timeline, arrivals, check_outages, first_success, openings, spell_at, starts
from breakerrow.rows import Row
from breakerrow.trains import Trains
from tests.played import Played, SERVED, horizon_of, random_outages, random_row
from tests.support import NOT_INTEGERS, Case, seeded

MOST = 10 ** 30
ROW = Row([(2, 3, 1), (1, 4, 1)], 1)
OUTAGES = [(10, 25)]
SLOW = Row([(1, 5, 3)], 2)
SLOW_OUTAGES = [(0, 4), (8, 9)]
NOT_LISTS = (None, 5, True, "", "abc", b"", (), ((1, 2),), (1, 2), {}, {1: 2}, set(), {(1, 2)}, object(), range(2),
             iter([(1, 2)]), Timeline(ROW, OUTAGES))
NOT_OUTAGES = ([1, 2], (), (1,), (1, 2, 3), None, 5, True, "12", b"12", {}, {1: 2}, {1, 2}, ((1, 2),), [(1, 2)],
               object(), (-1, 5), (-1, 0), (1, 1), (2, 1), (0, 0), (5, -1), (1, MOST + 1), (MOST, MOST),
               (MOST, MOST + 1), (MOST - 1, MOST + 1))


def neighbours(number, length=2, distance=2):
    """Return so many outages that are as close to one another as they may be."""
    return [(place * (length + distance), place * (length + distance) + length) for place in range(number)]


class Outages(Case):

    def assert_invalid(self, at, outages):
        self.assert_error(InvalidOutages, {"at": at}, check_outages, outages)
        self.assert_error(InvalidOutages, {"at": at}, Timeline, ROW, outages)

    def test_outages_as_they_may_be(self):
        for outages in ([], [(0, 1)], [(0, MOST)], [(MOST - 1, MOST)], [(0, 1), (2, 3)], [(0, 4), (5, 9)],
                        neighbours(49), neighbours(50), neighbours(50, 10 ** 28, 1)):
            self.assertIsNone(check_outages(outages))
            self.assertEqual(Timeline(ROW, outages).outage_list(), outages)
        self.assertIsNone(check_outages(outages=[(1, 2)]))

    def test_more_than_fifty(self):
        for outages in (neighbours(51), neighbours(52), [None] * 51, [(0, 1)] * 51):
            self.assert_invalid(-1, outages)

    def test_no_list(self):
        for value in NOT_LISTS:
            with self.subTest(value=value):
                self.assert_invalid(-1, value)

    def test_items_that_are_no_outages(self):
        for item in NOT_OUTAGES:
            with self.subTest(item=item):
                self.assert_invalid(0, [item])
                self.assert_invalid(0, [item, (7, 8)])
                self.assert_invalid(2, [(0, 1), (2, 3), item, None])

    def test_an_outage_consists_of_integers(self):
        for value in NOT_INTEGERS:
            with self.subTest(value=value):
                self.assert_invalid(1, [(0, 3), (value, 9)])
                self.assert_invalid(1, [(0, 3), (5, value)])
        self.assert_invalid(0, [(False, True)])
        self.assert_invalid(0, [(0, True)])

    def test_outages_that_begin_too_early(self):
        for begin in (0, 3, 4, 7, 8, 9):
            self.assert_invalid(1, [(4, 9), (begin, 20)])
        self.assert_invalid(1, [(0, MOST), (MOST, MOST + 1)])
        self.assert_invalid(49, neighbours(49) + [(194, 195)])
        self.assertIsNone(check_outages([(4, 9), (10, 20)]))

    def test_the_first_index_is_told(self):
        for at in range(50):
            outages = neighbours(at) + [(4 * at, 4 * at)] + [None] * (49 - at)
            self.assert_invalid(at, outages)

    def test_nothing_is_modified(self):
        for outages in ([(0, 1), (5, 9)], [(0, 1), None, (5, 9)]):
            passed = list(outages)
            self.assertIn(self.told(passed), (None, 1))
            self.assertEqual(passed, outages)

    def told(self, outages):
        try:
            return check_outages(outages)
        except InvalidOutages as error:
            return error.at


class Parts(Case):

    def test_the_parts(self):
        t = Timeline(ROW, OUTAGES)
        self.assertEqual((t.base_row(), t.outage_list()), (ROW, OUTAGES))
        t = Timeline(outages=SLOW_OUTAGES, row=SLOW)
        self.assertEqual((t.base_row(), t.outage_list()), (SLOW, SLOW_OUTAGES))

    def test_a_list_that_was_passed_is_neither_kept_nor_modified(self):
        outages = list(OUTAGES)
        t = Timeline(ROW, outages)
        self.assertEqual(outages, OUTAGES)
        outages.append((30, 40))
        outages[0] = (1, 2)
        self.assertEqual((t.outage_list(), len(t), t[0]), (OUTAGES, 1, (10, 26, 26)))
        self.assertEqual(first_success(t, 31), 31)

    def test_lists_that_were_returned_belong_to_the_caller(self):
        t = Timeline(ROW, OUTAGES)
        for function, arguments in ((Timeline.outage_list, ()), (starts, (0,)), (openings, (0,))):
            returned = function(t, *arguments)
            self.assertIsInstance(returned, list)
            kept = list(returned)
            returned[0] = None
            returned.append(None)
            self.assertEqual(function(t, *arguments), kept)
        t.base_row().breaker_list().clear()
        self.assertEqual(t.base_row(), ROW)

    def test_equality(self):
        one = Timeline(ROW, OUTAGES)
        self.assertIs(one == Timeline(Row(ROW.breaker_list(), 1), list(OUTAGES)), True)
        for other in (Timeline(ROW, []), Timeline(ROW, [(10, 24)]), Timeline(ROW, OUTAGES + [(30, 31)]),
                      Timeline(Row(ROW.breaker_list(), 1, phase=1), OUTAGES), Timeline(SLOW, OUTAGES),
                      Timeline(Row([(2, 3, 1), (1, 4, 2)], 1), OUTAGES)):
            self.assertIs(one == other, False)
            self.assertIs(one != other, True)
        for other in (ROW, OUTAGES, (ROW, OUTAGES), None, 1, "t", Trains([]), object(), [(10, 26, 26)]):
            self.assertIs(one == other, False)
            self.assertIs(other == one, False)
        # Outages that no request meets count for equality, too.
        self.assertNotEqual(Timeline(SLOW, [(1, 2)]), Timeline(SLOW, []))

    def test_where_all_is_defined(self):
        for name in ("base_row", "outage_list", "__len__", "__getitem__", "__eq__"):
            self.assertIn(name, vars(Timeline))
        for name in ("Timeline", "check_outages", "spell_at", "first_success", "arrivals", "starts", "openings"):
            self.assertEqual(getattr(module, name).__module__, "breakerrow.outages")


class Spells(Case):

    def test_the_examples(self):
        t, slow = Timeline(ROW, OUTAGES), Timeline(SLOW, SLOW_OUTAGES)
        self.assertEqual([t[0], slow[0], slow[1], len(slow)], [(10, 26, 26), (0, 6, None), (8, 14, 18), 2])

    def marks(self, row, outages):
        t = Timeline(row, outages)
        return [t[index] for index in range(len(t))]

    def test_beside_requests_that_are_sent_one_by_one(self):
        source = seeded("spells")
        for turn in range(1200):
            row, outages = random_row(source), random_outages(source, 8)
            played = Played(row, outages, horizon_of(outages))
            self.assertEqual(self.marks(row, outages), played.marks())

    def test_outages_without_requests(self):
        row = Row([(1, 5, 1)], 10, phase=3)
        for outages in ([], [(0, 3)], [(4, 13)], [(0, 3), (4, 13), (14, 23), (34, 43)]):
            self.assertEqual(self.marks(row, outages), [])
        self.assertEqual(self.marks(row, [(0, 2), (4, 14), (15, 23)]), [(13, 23, 23)])
        self.assertEqual(self.marks(row, [(0, 4)]), [(3, 13, 13)])

    def test_one_spell_for_outages_between_whose_requests_none_succeeds(self):
        row = Row([(1, 20, 1)], 1)
        self.assertEqual(self.marks(row, [(0, 5)]), [(0, 20, 20)])
        self.assertEqual(self.marks(row, [(0, 5), (7, 19), (20, 21)]), [(0, 40, 40)])
        self.assertEqual(self.marks(row, [(0, 5), (7, 9), (12, 20)]), [(0, 20, 20)])
        self.assertEqual(self.marks(row, [(0, 5), (7, 9), (15, 20), (21, 22)]), [(0, 20, 20), (21, 41, 41)])
        # The later outages have no requests of their own.
        self.assertEqual(self.marks(Row([(1, 20, 1)], 5), [(0, 1), (2, 3), (6, 9), (20, 21)]), [(0, 40, 40)])

    def test_one_request_between_two_outages_succeeds(self):
        self.assertEqual(self.marks(Row([], 1), [(0, 5), (6, 9)]), [(0, 5, 5), (6, 9, 9)])
        self.assertEqual(self.marks(Row([(1, 6, 1)], 3), [(0, 5), (7, 10)]), [(0, 6, 6), (9, 15, 15)])

    def test_whole_before_with_and_behind_the_next_spell(self):
        row = Row([(1, 4, 5)], 1)
        for begin, whole in ((5, None), (6, None), (7, None), (8, None), (9, 8), (10, 8)):
            self.assertEqual(self.marks(row, [(0, 3), (begin, begin + 1)])[0], (0, 4, whole))

    def test_a_breaker_that_has_not_opened_is_not_waited_for(self):
        self.assertEqual(self.marks(Row([(9, 4, 10 ** 12)], 1), [(0, 8)]), [(0, 8, 8)])
        self.assertEqual(self.marks(Row([(9, 4, 10 ** 12)], 1), [(0, 9)]), [(0, 12, 10 ** 12 + 11)])

    def test_values_that_are_no_index(self):
        t = Timeline(SLOW, SLOW_OUTAGES)
        for index in NOT_INTEGERS + (2, 3, -1, -2, 10 ** 500, slice(0, 1)):
            with self.subTest(index=index):
                self.assert_error(InvalidIndex, {"index": index}, lambda: t[index])
                self.assert_error(InvalidIndex, {"index": index}, arrivals, t, index, 0)
                self.assert_error(InvalidIndex, {"index": index}, starts, t, index)
                self.assert_error(InvalidIndex, {"index": index}, openings, t, index)
        for function in (lambda index: Timeline(ROW, [])[index], lambda index: starts(Timeline(ROW, []), index)):
            self.assert_error(InvalidIndex, {"index": 0}, function, 0)
        self.assertEqual(t[1], (8, 14, 18))

    def test_a_timeline_cannot_be_iterated_over(self):
        self.assertRaises(TypeError, lambda: list(Timeline(ROW, OUTAGES)))


class Times(Case):

    def test_the_examples(self):
        t = Timeline(ROW, OUTAGES)
        self.assertEqual([spell_at(t, 25), first_success(t, 9), first_success(t, 12)], [0, 9, 26])

    def test_each_time_beside_requests_that_are_sent_one_by_one(self):
        source = seeded("times")
        for turn in range(250):
            row, outages = random_row(source), random_outages(source)
            horizon = horizon_of(outages)
            played, t = Played(row, outages, horizon), Timeline(row, outages)
            served = [time for time, told in zip(played.times, played.told) if told == SERVED]
            marks = played.marks()
            for time in range(horizon):
                within = [index for index, (first, recovered, whole) in enumerate(marks) if first <= time < recovered]
                self.assertEqual(spell_at(t, time), within[0] if within else None)
                if time <= served[-1]:
                    self.assertEqual(first_success(t, time), min(at for at in served if at >= time))

    def test_at_the_phase_and_between_requests(self):
        t = Timeline(Row([(1, 5, 3)], 10, phase=7), [(0, 27)])
        self.assertEqual([spell_at(t, time) for time in (0, 6, 7, 8, 26, 27, 28)], [None, None, 0, 0, 0, None, None])
        self.assertEqual([first_success(t, time) for time in (0, 7, 26, 27, 28, 37, 38)], [27, 27, 27, 27, 37, 37, 47])
        t = Timeline(Row([], 10, phase=7), [])
        self.assertEqual([first_success(t, time) for time in (0, 6, 7, 8, 17)], [7, 7, 7, 17, 17])
        self.assertIsNone(spell_at(t, 7))

    def test_far_behind(self):
        t, far = Timeline(SLOW, SLOW_OUTAGES), 2 * 10 ** 499
        self.assertIsNone(spell_at(t, far))
        self.assertEqual([first_success(t, far - 1), first_success(t, far), first_success(t, far + 1)],
                         [far, far, far + 2])

    def test_by_name(self):
        t = Timeline(ROW, OUTAGES)
        self.assertEqual((spell_at(time=11, timeline=t), first_success(time=11, timeline=t)), (0, 26))

    def test_values_that_are_no_time(self):
        t = Timeline(ROW, OUTAGES)
        for time in NOT_INTEGERS + (-1, -10 ** 30):
            with self.subTest(time=time):
                self.assert_error(InvalidTime, {"time": time}, spell_at, t, time)
                self.assert_error(InvalidTime, {"time": time}, first_success, t, time)
        self.assertEqual(first_success(t, 0), 0)


class Breakers(Case):

    def test_the_examples(self):
        t, slow = Timeline(ROW, OUTAGES), Timeline(SLOW, SLOW_OUTAGES)
        self.assertEqual([arrivals(t, 0, 1).train_list(), arrivals(t, 0, 2).train_list()],
                         [[(10, 1, 2), (14, 3, 4)], [(10, 4, 2), (20, 1, 1)]])
        self.assertEqual([openings(t, 0), starts(slow, 1)], [[11, 10], [("half", 1)]])
        self.assertEqual(arrivals(t, 0, 0).train_list(), [(10, 1, 16)])

    def test_beside_requests_that_are_sent_one_by_one(self):
        source = seeded("arrivals")
        kinds = set()
        for turn in range(800):
            row, outages = random_row(source), random_outages(source, 7)
            played, t = Played(row, outages, horizon_of(outages)), Timeline(row, outages)
            for index in range(len(t)):
                for breaker in range(len(row) + 1):
                    told = arrivals(t, index, breaker)
                    self.assertIsInstance(told, Trains)
                    self.assertEqual(told.train_list(), played.arrivals(index, breaker))
                self.assertEqual(starts(t, index), played.starts(index))
                self.assertEqual(openings(t, index), played.openings(index))
                kinds.update(kind for kind, number in starts(t, index))
                kinds.update(time is None for time in openings(t, index))
        self.assertEqual(kinds, {"closed", "half", True, False})

    def test_starts(self):
        # The first breaker opens in each spell, the second one only in the first.
        row = Row([(1, 3, 4), (4, 2, 9), (100, 1, 5)], 1)
        t = Timeline(row, [(0, 20), (26, 27), (60, 61), (64, 65)])
        self.assertEqual([t[index] for index in range(4)],
                         [(0, 21, None), (26, 29, 37), (60, 63, None), (64, 67, 70)])
        self.assertEqual(starts(t, 0), [("closed", 0)] * 3)
        self.assertEqual(starts(t, 1), [("closed", 0), ("half", 5), ("closed", 0)])
        self.assertEqual(starts(t, 2), [("closed", 0)] * 3)
        self.assertEqual(starts(t, 3), [("half", 1), ("closed", 0), ("closed", 0)])
        self.assertEqual(openings(t, 0), [0, 9, None])
        self.assertEqual(openings(t, 1), [26, 26, None])
        self.assertEqual(openings(t, 2), [60, None, None])
        self.assertEqual(openings(t, 3), [64, None, None])

    def test_rows_without_breakers(self):
        t = Timeline(Row([], 4, phase=2), [(3, 15)])
        self.assertEqual((t[0], starts(t, 0), openings(t, 0)), ((6, 18, 18), [], []))
        self.assertEqual(arrivals(t, 0, 0).train_list(), [(6, 4, 3)])
        self.assert_error(InvalidIndex, {"index": 1}, arrivals, t, 0, 1)

    def test_by_name(self):
        t = Timeline(ROW, OUTAGES)
        self.assertEqual(arrivals(breaker=2, index=0, timeline=t).train_list(), [(10, 4, 2), (20, 1, 1)])
        self.assertEqual([starts(index=0, timeline=t), openings(index=0, timeline=t)],
                         [[("closed", 0)] * 2, [11, 10]])

    def test_values_that_are_no_breaker(self):
        t = Timeline(ROW, OUTAGES)
        for breaker in NOT_INTEGERS + (3, 4, -1, 10 ** 500):
            with self.subTest(breaker=breaker):
                self.assert_error(InvalidIndex, {"index": breaker}, arrivals, t, 0, breaker)
        # The index of the spell is checked first.
        self.assert_error(InvalidIndex, {"index": 1}, arrivals, t, 1, 3)
        self.assert_error(InvalidIndex, {"index": "x"}, arrivals, t, "x", [3])
