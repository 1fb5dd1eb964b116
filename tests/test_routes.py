"""Routes: their parts (point 46), and what happens to their first requests (point 47)."""

from breakerrow.errors import InvalidBound, InvalidRow
from breakerrow.outages import Timeline
from breakerrow.routes import Routes, common_openings, served
from breakerrow.rows import Row
from breakerrow.states import failed, states_at, succeeded
from tests.played import random_outages
from tests.routed import Routed
from tests.support import NOT_INTEGERS, Case, random_breakers, seeded

MOST = 10 ** 30
COMMON = [(2, 5, 1)]
SERVICES = [([], [(0, 100)]), ([], [])]
PATTERN = [0, 0, 1]
ROUTES = Routes(COMMON, SERVICES, PATTERN, 1)
NO_LISTS = (None, True, 0, 1, "", "ab", b"", (), (1,), {}, {0: 1}, set(), {0}, object(), iter([]), range(1), ROUTES)
NO_BREAKERS = (None, True, 1, "abc", (), (1, 1), [1, 1, 1], (1, 1, 1, 1), (0, 1, 1), (1, 0, 1), (1, 1, 0),
               (True, 1, 1), (1, True, 1), (1, 1, True), (10 ** 12 + 1, 1, 1), (1, MOST + 1, 1), (1, 1, 10 ** 12 + 1),
               ({}, 1, 1), (1, [], 1), (1, 1, None), [], {})
NO_OUTAGES = (None, (), [None], [1], [(1,)], [(1, 2, 3)], [[1, 2]], [(2, 2)], [(-1, 2)], [(True, 2)], [(0, True)],
              [(0, MOST + 1)], [(0, 2), (2, 3)], [(3, 4), (0, 1)], [({}, 2)], [(0, [])], {}, "ab",
              [(2 * at, 2 * at + 1) for at in range(51)])


def random_parts(source):
    """Return random parts of routes, with small numbers of all kinds."""
    services = [(random_breakers(source, 3), random_outages(source)) for place in range(source.randint(1, 4))]
    pattern = [source.randint(0, len(services) - 1) for place in range(source.randint(1, 6))]
    return random_breakers(source, 3), services, pattern, source.choice((1, 1, 2, 3, 7))


def greatest_parts():
    """Return parts at all limits."""
    breakers = [(10 ** 12, MOST, 10 ** 12)] * 12
    outages = [(2 * at, 2 * at + 1) for at in range(49)] + [(MOST - 1, MOST)]
    return list(breakers), [(list(breakers), list(outages)) for place in range(10)], list(range(10)) * 2, MOST


class Parts(Case):

    def assert_invalid(self, part, at, *parts):
        self.assert_error(InvalidRow, {"part": part, "at": at}, Routes, *parts)

    def test_at_the_limits(self):
        self.assertEqual(Routes(*greatest_parts()).parts(), greatest_parts())
        least = ([], [([], [])], [0], 1)
        self.assertEqual(Routes(*least).parts(), least)

    def test_by_name(self):
        routes = Routes(step=1, pattern=PATTERN, services=SERVICES, common=COMMON)
        self.assertEqual(routes, ROUTES)
        self.assertEqual(routes.parts(), (COMMON, SERVICES, PATTERN, 1))
        self.assertEqual([type(part) for part in routes.parts()], [list, list, list, int])
        self.assertEqual([type(part) for part in routes.parts()[1][0]], [list, list])

    def test_one_beyond_the_limits(self):
        common, services, pattern, step = greatest_parts()
        self.assert_invalid("common", -1, common + [(1, 1, 1)], services, pattern, step)
        self.assert_invalid("services", -1, common, services + [([], [])], pattern, step)
        self.assert_invalid("services", -1, common, [], pattern, step)
        self.assert_invalid("pattern", -1, common, services, pattern + [0], step)
        self.assert_invalid("pattern", -1, common, services, [], step)
        self.assert_invalid("pattern", 19, common, services, pattern[:19] + [10], step)
        self.assert_invalid("step", -1, common, services, pattern, step + 1)
        self.assert_invalid("step", -1, common, services, pattern, 0)
        services[9] = (services[9][0] + [(1, 1, 1)], [])
        self.assert_invalid("services", 9, common, services, pattern, step)
        services[9] = ([], [(2 * at, 2 * at + 1) for at in range(51)])
        self.assert_invalid("services", 9, common, services, pattern, step)

    def test_common_breakers(self):
        for value in NO_LISTS:
            self.assert_invalid("common", -1, value, SERVICES, PATTERN, 1)
        for value in NO_BREAKERS:
            with self.subTest(value=value):
                self.assert_invalid("common", 0, [value], SERVICES, PATTERN, 1)
                self.assert_invalid("common", 2, [(1, 1, 1), (2, 2, 2), value, (1, 1, 1), None], SERVICES, PATTERN, 1)

    def test_services(self):
        for value in NO_LISTS + ([],):
            self.assert_invalid("services", -1, COMMON, value, PATTERN, 1)
        items = [None, True, 1, "ab", b"ab", (), ([],), ([], [], []), [[], []], {}, {0: [], 1: []}, object(), ROUTES,
                 Timeline(Row([], 1), [])]
        items += [(value, []) for value in NO_LISTS] + [([(1, 1, 1), value], []) for value in NO_BREAKERS]
        items += [([], value) for value in NO_OUTAGES] + [([(1, 1, 1)] * 13, [])]
        for item in items:
            with self.subTest(item=item):
                self.assert_invalid("services", 0, COMMON, [item], PATTERN, 1)
                self.assert_invalid("services", 2, COMMON, SERVICES + [item, ([], []), None], PATTERN, 1)

    def test_pattern(self):
        for value in NO_LISTS + ([],):
            self.assert_invalid("pattern", -1, COMMON, SERVICES, value, 1)
        for value in NOT_INTEGERS + (-1, 2, 3, MOST):
            with self.subTest(value=value):
                self.assert_invalid("pattern", 0, COMMON, SERVICES, [value], 1)
                self.assert_invalid("pattern", 2, COMMON, SERVICES, [1, 0, value, 0, None], 1)
        # An index must be that of one of the services that are passed.
        self.assert_invalid("pattern", 1, COMMON, SERVICES[:1], [0, 1], 1)

    def test_step(self):
        for value in NOT_INTEGERS + (0, -1, MOST + 1, -MOST):
            with self.subTest(value=value):
                self.assert_invalid("step", -1, COMMON, SERVICES, PATTERN, value)

    def test_the_parts_in_their_order(self):
        self.assert_invalid("common", 0, [None], None, None, None)
        self.assert_invalid("common", -1, None, [None], [None], 0)
        self.assert_invalid("services", -1, COMMON, None, None, None)
        self.assert_invalid("services", 1, COMMON, [([], []), None], [None], 0)
        self.assert_invalid("pattern", -1, COMMON, SERVICES, None, None)
        self.assert_invalid("pattern", 1, COMMON, SERVICES, [0, 2], 0)

    def test_changing_what_was_passed_or_returned(self):
        common, services, pattern, step = parts = greatest_parts()
        routes = Routes(*parts)
        services[3][0].clear()
        services[3][1].append(None)
        services[4][1][0] = None
        common.append(None)
        pattern[0] = 9
        services.clear()
        self.assertEqual(routes.parts(), greatest_parts())
        common, services, pattern, step = routes.parts()
        services[3][0].clear()
        services[3][1].append(None)
        services[4] = None
        common.append(None)
        pattern[0] = 9
        self.assertEqual(routes.parts(), greatest_parts())
        self.assertEqual(routes, Routes(*greatest_parts()))

    def test_the_passed_lists_are_not_modified(self):
        parts = greatest_parts()
        Routes(*parts)
        self.assertEqual(parts, greatest_parts())


class Equality(Case):

    def test_of_equal_parts(self):
        source = seeded("equal routes")
        for turn in range(50):
            parts = random_parts(source)
            self.assertIs(Routes(*parts) == Routes(*Routes(*parts).parts()), True)
            self.assertIs(Routes(*parts) != Routes(*parts), False)

    def test_of_other_parts(self):
        others = [([(2, 5, 2)], SERVICES, PATTERN, 1), ([], SERVICES, PATTERN, 1),
                  (COMMON, SERVICES + [([], [])], PATTERN, 1), (COMMON, [([], [(0, 99)]), ([], [])], PATTERN, 1),
                  (COMMON, [([(1, 1, 1)], [(0, 100)]), ([], [])], PATTERN, 1), (COMMON, SERVICES, [0, 1, 0], 1),
                  (COMMON, SERVICES, PATTERN * 2, 1), (COMMON, SERVICES, PATTERN, 2)]
        for parts in others:
            with self.subTest(parts=parts):
                self.assertIs(ROUTES == Routes(*parts), False)
                self.assertIs(ROUTES != Routes(*parts), True)

    def test_of_nothing_else(self):
        for other in (None, ROUTES.parts(), list(ROUTES.parts()), Row(COMMON, 1), object(), 1, "", {}):
            self.assertIs(ROUTES == other, False)
            self.assertIs(other == ROUTES, False)
            self.assertIs(ROUTES != other, True)


class FirstRequests(Case):

    def test_the_examples(self):
        self.assertEqual([common_openings(ROUTES, 8), served(ROUTES, 8)], [[(1, 0), (6, 0)], [(0, 6), (0, 2)]])
        self.assertEqual([common_openings(count=8, routes=ROUTES), served(count=8, routes=ROUTES)],
                         [[(1, 0), (6, 0)], [(0, 6), (0, 2)]])

    def test_beside_requests_that_are_sent_one_by_one(self):
        source = seeded("routes")
        opened = 0
        for turn in range(300):
            parts = random_parts(source)
            routes = Routes(*parts)
            # Counts in any order: nothing is kept from one call to the next.
            for count in (source.randint(0, 150), 0, source.randint(0, 30), 120, 1):
                routed = Routed(*parts, count)
                self.assertEqual(served(routes, count), routed.served)
                self.assertEqual(common_openings(routes, count), routed.openings)
                self.assertEqual(sum(good + bad for good, bad in served(routes, count)), count)
                opened += len(routed.openings)
            self.assertEqual(routes.parts(), parts)
        self.assertTrue(opened > 1000)

    def test_no_requests(self):
        self.assertEqual([served(ROUTES, 0), common_openings(ROUTES, 0)], [[(0, 0), (0, 0)], []])

    def test_ten_thousand_requests(self):
        common = [(3, 17, 2), (2, 40, 1), (7, 5, 9)] * 4
        services = [([(2, 3, 1), (1, 4, 1)] * 6, [(200 * at, 200 * at + 90) for at in range(50)])
                    for place in range(10)]
        parts = (common, services, [0, 3, 1, 4, 1, 5, 9, 2, 6, 5, 3, 5, 8, 9, 7, 9, 3, 2, 3, 8], 1)
        routes = Routes(*parts)
        routed = Routed(*parts, 10000)
        self.assertEqual(served(routes, 10000), routed.served)
        self.assertEqual(common_openings(routes, 10000), routed.openings)

    def test_several_breakers_open_at_one_request(self):
        routes = Routes([(2, 5, 1), (3, 1, 1), (2, 9, 1)], [([], [(0, 50)])], [0], 1)
        self.assertEqual(common_openings(routes, 7), [(1, 0), (1, 2), (6, 0), (6, 1)])
        self.assertEqual(served(routes, 7), [(0, 7)])

    def test_a_breaker_of_a_service_is_reached_by_its_requests_alone(self):
        # Service 0 fails and its breaker opens; requests to service 1 neither close it nor are they rejected by it.
        routes = Routes([(9, 1, 1)], [([(2, 100, 1)], [(0, 4)]), ([(2, 100, 1)], [])], [0, 1], 1)
        self.assertEqual(served(routes, 20), [(0, 10), (10, 0)])
        self.assertEqual(common_openings(routes, 20), [])
        # What that breaker rejects fails for a common breaker.
        routes = Routes([(3, 5, 1)], [([(1, 100, 1)], [(0, 1)])], [0], 1)
        self.assertEqual(common_openings(routes, 20), [(2, 0), (7, 0), (12, 0), (17, 0)])

    def test_a_service_that_gets_no_request(self):
        self.assertEqual(served(Routes([], [([], []), ([], [])], [1], 1), 5), [(0, 0), (5, 0)])

    def test_outages_at_the_times_of_the_requests(self):
        routes = Routes([], [([], [(3, 4), (6, 7), (13, 30)])], [0], 3)
        self.assertEqual([served(routes, count) for count in range(6)],
                         [[(0, 0)], [(1, 0)], [(1, 1)], [(1, 2)], [(2, 2)], [(3, 2)]])

    def test_great_numbers(self):
        common, services, pattern, step = greatest_parts()
        routes = Routes(common, services, pattern, step)
        self.assertEqual(served(routes, 100), [(9, 1)] + [(10, 0)] * 9)
        self.assertEqual(common_openings(routes, 100), [])
        routes = Routes([(1, MOST, 1)], [([], [(0, 1)])], [0], MOST - 1)
        self.assertEqual((served(routes, 4), common_openings(routes, 4)), ([(2, 2)], [(0, 0)]))
        source = seeded("great routes")
        for turn in range(60):
            scale = 10 ** 26
            common, services, pattern, step = random_parts(source)
            small = Routes(common, services, pattern, step)
            great = Routes([(failures, wait * scale, successes) for failures, wait, successes in common],
                           [([(failures, wait * scale, successes) for failures, wait, successes in breakers],
                             [(begin * scale, end * scale) for begin, end in outages])
                            for breakers, outages in services], pattern, step * scale)
            self.assertEqual(served(great, 70), served(small, 70))
            self.assertEqual(common_openings(great, 70), common_openings(small, 70))

    def test_values_that_are_no_count(self):
        for count in NOT_INTEGERS + (-1, 10001, MOST, -MOST):
            with self.subTest(count=count):
                self.assert_error(InvalidBound, {"part": "count"}, served, ROUTES, count)
                self.assert_error(InvalidBound, {"part": "count"}, common_openings, ROUTES, count)

    def test_returned_lists_belong_to_the_caller(self):
        served(ROUTES, 8).clear()
        common_openings(ROUTES, 8).clear()
        self.test_the_examples()


class BesideTimelines(Case):

    def test_one_service_and_a_timeline_of_the_row_of_the_same_breakers(self):
        source = seeded("one service")
        for turn in range(200):
            common, own, outages = random_breakers(source, 3), random_breakers(source, 3), random_outages(source)
            step = source.choice((1, 1, 2, 5))
            routes = Routes(common, [(own, outages)], [0] * source.randint(1, 3), step)
            t = Timeline(Row(common + own, step), outages)
            for count in (0, 1, source.randint(2, 40), 130):
                after = count * step
                self.assertEqual(served(routes, count), [(succeeded(t, 0, after), failed(t, 0, after))])
                opened = [(number, breaker) for number in range(count) for breaker in range(len(common))
                          if states_at(t, number * step)[breaker] == ("open", number * step)]
                self.assertEqual(common_openings(routes, count), opened)

    def test_the_spells_of_the_timeline(self):
        source = seeded("spells of routes")
        for turn in range(100):
            common, outages = random_breakers(source, 4), random_outages(source)
            routes, t = Routes(common, [([], outages)], [0], 1), Timeline(Row(common, 1), outages)
            for first, recovered, whole in (t[index] for index in range(len(t))):
                good, bad = served(routes, first)[0]
                self.assertEqual(served(routes, recovered), [(good, bad + recovered - first)])
                self.assertEqual(served(routes, recovered + 1), [(good + 1, bad + recovered - first)])
