"""Services of routes that are down for ever: runs of failures (point 48) and the first opening (point 49)."""

import itertools

from breakerrow.errors import InvalidBound
from breakerrow.routes import Routes, first_opening, longest_failure
from tests.routed import Routed
from tests.support import NOT_INTEGERS, Case, random_breakers, seeded

SERVICES = [([], [(0, 100)]), ([], [])]
ROUTES = Routes([(2, 5, 1)], SERVICES, [0, 0, 1], 1)


def all_lists(number):
    """List the ascending lists of indices below a number."""
    return [list(down) for length in range(number + 1) for down in itertools.combinations(range(number), length)]


def longest_run(pattern, down, rounds=5):
    """Return the greatest number of neighbouring requests to services in a list, None if there is no other request."""
    belongs = "".join("x" if service in down else " " for service in pattern * rounds)
    return None if " " not in belongs else max(len(run) for run in belongs.split(" "))


def random_parts(source):
    services = [(random_breakers(source, 2), [(0, 5)] * source.randint(0, 1)) for place in range(source.randint(1, 4))]
    pattern = [source.randint(0, len(services) - 1) for place in range(source.randint(1, 9))]
    common = [(source.randint(1, source.choice((2, 5, 9))), source.randint(1, 9), source.randint(1, 3))
              for place in range(source.randint(0, 4))]
    return common, services, pattern, source.randint(1, 3)


class LongestFailure(Case):

    def test_the_examples(self):
        self.assertEqual([longest_failure(ROUTES, [0]), longest_failure(down=[1], routes=ROUTES)], [2, 1])
        self.assertEqual([longest_failure(ROUTES, []), longest_failure(ROUTES, [0, 1])], [0, None])

    def test_all_short_patterns(self):
        services = [([], [])] * 3
        for length in range(1, 6):
            for pattern in itertools.product(range(3), repeat=length):
                routes = Routes([], services, list(pattern), 1)
                for down in all_lists(3):
                    self.assertEqual(longest_failure(routes, down), longest_run(pattern, down))

    def test_long_patterns(self):
        source = seeded("patterns")
        for turn in range(300):
            number = source.randint(1, 10)
            pattern = [source.randint(0, number - 1) for place in range(source.randint(1, 20))]
            down = [service for service in range(number) if source.random() < 0.7]
            self.assertEqual(longest_failure(Routes([], [([], [])] * number, pattern, 1), down),
                             longest_run(pattern, down))

    def test_over_the_end_of_the_pattern(self):
        self.assertEqual(longest_failure(Routes([], SERVICES, [0, 0, 1, 0], 1), [0]), 3)
        self.assertEqual(longest_failure(Routes([], SERVICES, [0] * 9 + [1] + [0] * 10, 1), [0]), 19)
        self.assertEqual(longest_failure(Routes([], SERVICES, [1] + [0] * 19, 1), [0]), 19)
        self.assertEqual(longest_failure(Routes([], SERVICES, [1] + [0] * 19, 1), [1]), 1)

    def test_services_without_requests(self):
        routes = Routes([], [([], [])] * 3, [1, 1], 1)
        self.assertEqual([longest_failure(routes, down) for down in ([], [0], [0, 2], [1], [0, 1], [0, 1, 2])],
                         [0, 0, 0, None, None, None])

    def test_a_breaker_that_all_requests_pass(self):
        # It opens at some time exactly if its failures are at most the longest failure.
        source = seeded("one common breaker")
        for turn in range(300):
            common, services, pattern, step = random_parts(source)
            for failures in (1, 2, 3, 5, 8):
                parts = ([(failures, 3, 1)], services, pattern, step)
                for down in all_lists(len(services)):
                    longest = longest_failure(Routes(*parts), down)
                    works = [service not in down for service in range(len(services))]
                    opened = Routed(*parts, 4 * len(pattern) + 9, works).openings != []
                    self.assertEqual(opened, longest is None or failures <= longest)


class FirstOpening(Case):

    def test_the_examples(self):
        self.assertEqual([first_opening(ROUTES, [0]), first_opening(ROUTES, [1])], [(1, [0]), None])
        self.assertEqual(first_opening(down=[0, 1], routes=ROUTES), (1, [0]))
        self.assertIsNone(first_opening(ROUTES, []))

    def test_beside_requests_that_are_sent_one_by_one(self):
        source = seeded("first openings")
        met = {}
        for turn in range(400):
            parts = random_parts(source)
            common, services, pattern, step = parts
            routes = Routes(*parts)
            for down in all_lists(len(services)):
                works = [service not in down for service in range(len(services))]
                openings = Routed(*parts, 3 * len(pattern) + 20, works).openings
                first = min(openings)[0] if openings else None
                expected = (first, [breaker for number, breaker in openings if number == first]) if openings else None
                self.assertEqual(first_opening(routes, down), expected)
                kind = None if expected is None else first >= len(pattern)
                met[kind] = met.get(kind, 0) + 1
            self.assertEqual(routes.parts(), parts)
        self.assertTrue(min(met.get(kind, 0) for kind in (None, True, False)) > 50)

    def test_a_run_over_the_end_of_the_pattern(self):
        for failures, expected in ((1, (0, [0])), (2, (1, [0])), (3, (5, [0])), (4, None)):
            self.assertEqual(first_opening(Routes([(failures, 1, 1)], SERVICES, [0, 0, 1, 0], 1), [0]), expected)

    def test_all_services_down(self):
        most = 10 ** 12
        for failures in (1, 2, 20, 21, 10 ** 9, most):
            routes = Routes([(most, 1, 1), (failures, 7, 2), (failures, 1, 1)], SERVICES, [0, 1, 0], 5)
            opened = [1, 2] if failures < most else [0, 1, 2]
            self.assertEqual(first_opening(routes, [0, 1]), (failures - 1, opened))
            self.assertEqual(first_opening(routes, [0]), {1: (0, [1, 2]), 2: (3, [1, 2])}.get(failures))

    def test_no_common_breakers(self):
        routes = Routes([], [([(1, 1, 1)], [(0, 9)])], [0], 1)
        self.assertIsNone(first_opening(routes, [0]))
        self.assertIsNone(first_opening(routes, []))

    def test_the_outages_do_not_matter(self):
        # Service 0 succeeds for ever and service 1 fails, against their outages.
        self.assertEqual(first_opening(Routes([(1, 5, 1)], SERVICES, [0, 0, 1], 1), [1]), (2, [0]))
        self.assertIsNone(first_opening(Routes([(1, 5, 1)], SERVICES, [0], 1), []))

    def test_the_list_belongs_to_the_caller(self):
        first_opening(ROUTES, [0])[1].clear()
        self.assertEqual(first_opening(ROUTES, [0]), (1, [0]))


class WrongLists(Case):

    def test_values_that_are_no_ascending_lists_of_indices(self):
        routes = Routes([(2, 5, 1)], [([], [])] * 3, [0, 1, 2], 1)
        none = Routes([], [([], [])] * 3, [0, 1, 2], 1)
        values = [None, True, False, 0, 1, "", "0", b"", (), (0,), (0, 1), {}, {0: 1}, set(), {0}, object(), range(2),
                  iter([0]), routes, [1, 0], [0, 0], [2, 2], [0, 2, 1], [0, 1, 1], [3], [0, 3], [0, 1, 2, 3], [-1],
                  [-1, 0], [0, -1], [10 ** 30], [[0]], [[]], [(0,)]]
        values += [[value] for value in NOT_INTEGERS] + [[0, value] for value in NOT_INTEGERS]
        for down in values:
            with self.subTest(down=down):
                for function in (longest_failure, first_opening):
                    self.assert_error(InvalidBound, {"part": "down"}, function, routes, down)
                    self.assert_error(InvalidBound, {"part": "down"}, function, none, down)

    def test_the_list_is_not_modified(self):
        down = [0, 1]
        longest_failure(ROUTES, down)
        first_opening(ROUTES, down)
        self.assertEqual(down, [0, 1])
