"""What holds over the whole program: the interface, conventions (point 2) and errors (point 4)."""

import copy
import importlib
import inspect

from breakerrow import (delays, errors, explained, orders, outages, playing, routes, rows, states, texts, trains,
                        wholes)
from breakerrow.delays import Delays
from breakerrow.errors import BreakerError, InvalidCall, InvalidIndex, InvalidTime, InvalidTrains
from breakerrow.outages import Timeline
from breakerrow.playing import Playing, replay
from breakerrow.routes import Routes
from breakerrow.rows import Row
from breakerrow.trains import Trains
from tests.support import Case

MOST = 10 ** 30

ROW = Row([(2, 3, 1), (1, 4, 1)], 1)
T = Trains([(0, 1, 2), (4, 3, 2), (10, 6, None)])
LINE = Timeline(ROW, [(10, 25), (40, 41)])
D = Delays(ROW, [(0, 3)], 10)
LOG = [(0, True), (1, True), (3, False), (6, True), (8, False), (9, False)]
ROUTES = Routes([(2, 5, 1)], [([(1, 2, 3)], [(0, 100)]), ([], [])], [0, 0, 1], 1)
WORDS = ["down", "down", "up"]

# For each function and class of the interface its arguments, in their order; those behind a star are in KEYWORD_ONLY.
CALLS = (
    (wholes, "is_integer", {"value": 7}),
    (rows, "Row", {"breakers": [(2, 3, 1)], "step": 2, "phase": 5}),
    (rows, "request_time", {"row": ROW, "number": 3}),
    (rows, "first_request", {"row": ROW, "time": 5}),
    (rows, "periods", {"row": ROW}),
    (rows, "row_period", {"row": ROW}),
    (rows, "slack", {"row": ROW}),
    (rows, "raised", {"row": ROW}),
    (rows, "least_period", {"row": ROW}),
    (trains, "Trains", {"trains": [(0, 1, 2), (4, 3, None)]}),
    (trains, "time_count", {"trains": T}),
    (trains, "count_before", {"trains": T, "time": 11}),
    (trains, "next_time", {"trains": T, "time": 11}),
    (trains, "latest_time", {"trains": T, "time": 11}),
    (trains, "window", {"trains": T, "first": 2, "after": 30}),
    (trains, "split_after", {"trains": T, "count": 3}),
    (trains, "thinned", {"trains": T, "wait": 4, "time": 1}),
    (trains, "shared", {"one": T, "other": Trains([(1, 3, None)])}),
    (outages, "Timeline", {"row": ROW, "outages": [(10, 25)]}),
    (outages, "check_outages", {"outages": [(10, 25)]}),
    (outages, "spell_at", {"timeline": LINE, "time": 11}),
    (outages, "first_success", {"timeline": LINE, "time": 11}),
    (outages, "arrivals", {"timeline": LINE, "index": 0, "breaker": 1}),
    (outages, "starts", {"timeline": LINE, "index": 0}),
    (outages, "openings", {"timeline": LINE, "index": 0}),
    (states, "states_at", {"timeline": LINE, "time": 11}),
    (states, "came", {"timeline": LINE, "breaker": 2, "first": 3, "after": 60}),
    (states, "rejected", {"timeline": LINE, "breaker": 1, "first": 3, "after": 60}),
    (states, "failed", {"timeline": LINE, "first": 3, "after": 60}),
    (states, "succeeded", {"timeline": LINE, "first": 3, "after": 60}),
    (states, "outcome", {"timeline": LINE, "time": 14}),
    (states, "time_open", {"timeline": LINE, "breaker": 1, "first": 3, "after": 60}),
    (delays, "Delays", {"row": ROW, "outages": [(0, 3)], "begin": 10}),
    (delays, "greatest_delay", {"delays": D, "first": 12, "last": 30}),
    (delays, "first_above", {"delays": D, "most": 3, "first": 11}),
    (delays, "total_delay", {"delays": D, "first": 12, "last": 30}),
    (delays, "mean_delay", {"delays": D, "first": 12, "last": 30}),
    (delays, "count_within", {"delays": D, "most": 2, "first": 12, "last": 30}),
    (delays, "settled", {"delays": D}),
    (orders, "reordered", {"row": ROW, "order": [1, 0]}),
    (orders, "best_order", {"row": ROW}),
    (orders, "worst_order", {"row": ROW}),
    (orders, "without", {"row": ROW, "index": 0}),
    (orders, "with_wait", {"row": ROW, "index": 0, "wait": 9}),
    (orders, "removal_periods", {"row": ROW}),
    (orders, "harmful_lowerings", {"row": Row([(1, 4, 1), (1, 4, 1)], 1), "index": 0}),
    (orders, "best_raise", {"row": ROW, "index": 0, "most": 9}),
    (explained, "log_of", {"breaker": (2, 4, 1), "times": [0, 1, 3, 6, 8, 9]}),
    (explained, "explanations", {"log": LOG}),
    (explained, "first_conflict", {"log": LOG + [(10, False), (11, False)]}),
    (explained, "forecast", {"log": LOG, "time": 10}),
    (explained, "waits_of", {"period_list": [1, 3, 6]}),
    (playing, "Playing", {"row": ROW}),
    (playing, "replay", {"row": ROW, "log": WORDS}),
    (playing, "outcomes", {"row": ROW, "log": WORDS}),
    (routes, "Routes", {"common": [(2, 5, 1)], "services": [([(1, 2, 3)], [(0, 100)])], "pattern": [0], "step": 3}),
    (routes, "served", {"routes": ROUTES, "count": 30}),
    (routes, "common_openings", {"routes": ROUTES, "count": 30}),
    (routes, "longest_failure", {"routes": ROUTES, "down": [0]}),
    (routes, "first_opening", {"routes": ROUTES, "down": [0]}),
    (texts, "format_row", {"row": ROW}),
    (texts, "format_outages", {"outages": [(0, 3), (5, 6)]}),
    (texts, "parse_row", {"text": "row 1 0\nbreaker 2 3 1"}),
    (texts, "parse_outages", {"text": "outage 0 3\noutage 5 6"}),
    (texts, "same_text", {"one": "row 1 0", "other": "row 1 0"}),
)
KEYWORD_ONLY = {"Row": ("phase",)}
METHODS = {
    Row: ("__init__", "breaker_list", "step_length", "phase_time", "__len__", "__getitem__", "__add__", "__contains__",
          "__eq__"),
    Trains: ("__init__", "train_list", "__len__", "__contains__", "__getitem__", "__add__", "__eq__"),
    Timeline: ("__init__", "base_row", "outage_list", "__len__", "__getitem__", "__eq__"),
    Delays: ("__init__", "__getitem__"),
    Playing: ("__init__", "base_row", "next_request", "request", "state_list", "is_whole", "log", "undo", "__eq__"),
    Routes: ("__init__", "parts", "__eq__"),
}
ERRORS = {"InvalidRow": ("part", "at"), "InvalidTime": ("time",), "InvalidOutages": ("at",), "InvalidTrains": ("at",),
          "InvalidIndex": ("index",), "InvalidBound": ("part",), "InvalidLog": ("at",), "InvalidCall": ("call",),
          "InvalidText": ("line", "word"), "LimitExceeded": ("limit",)}


def plain(value):
    """Return a value with all objects of the package in it replaced by what they tell."""
    if isinstance(value, Row):
        return "Row", value.breaker_list(), value.step_length(), value.phase_time()
    if isinstance(value, Trains):
        return "Trains", value.train_list()
    if isinstance(value, Timeline):
        return "Timeline", plain(value.base_row()), value.outage_list(), [value[at] for at in range(len(value))]
    if isinstance(value, Delays):
        return "Delays", [value[end] for end in range(11, 60)]
    if isinstance(value, Playing):
        return "Playing", plain(value.base_row()), value.log(), value.state_list(), value.next_request()
    if isinstance(value, Routes):
        return "Routes", value.parts()
    if isinstance(value, (list, tuple)):
        return type(value)([plain(item) for item in value])
    return value


def empty(value):
    """Empty all lists in a value that was returned."""
    if isinstance(value, (list, tuple)):
        for item in value:
            empty(item)
    if isinstance(value, list):
        value.clear()


class Interface(Case):

    def test_each_name_is_defined_in_its_file(self):
        for module, name, named in CALLS:
            with self.subTest(name):
                self.assertEqual(getattr(module, name).__module__, module.__name__)
        for name in tuple(ERRORS) + ("BreakerError",):
            self.assertEqual(getattr(errors, name).__module__, "breakerrow.errors")

    def test_all_functions_of_the_interface_are_called_here(self):
        self.assertEqual(len(CALLS), len({name for module, name, named in CALLS}))
        self.assertEqual(len(CALLS), 65)

    def test_arguments(self):
        for module, name, named in CALLS:
            with self.subTest(name):
                found = inspect.signature(getattr(module, name)).parameters
                self.assertEqual(list(found), list(named))
                only = [part.name for part in found.values() if part.kind == part.KEYWORD_ONLY]
                self.assertEqual(tuple(only), KEYWORD_ONLY.get(name, ()))
        self.assertRaises(TypeError, lambda: Row([], 1, 5))
        self.assertEqual(list(inspect.signature(Playing.request).parameters), ["self", "word"])
        self.assertEqual(list(inspect.signature(Playing.undo).parameters), ["self", "count"])
        for name, fields in ERRORS.items():
            self.assertEqual(list(inspect.signature(getattr(errors, name)).parameters), list(fields))

    def test_methods_are_defined_in_their_class(self):
        for kind, names in METHODS.items():
            for name in names:
                with self.subTest(kind=kind.__name__, name=name):
                    self.assertTrue(inspect.isfunction(vars(kind).get(name)))

    def test_errors(self):
        for name in ERRORS:
            self.assertEqual(getattr(errors, name).__bases__, (BreakerError,))
        self.assertEqual(BreakerError.__bases__, (ArithmeticError,))

    def test_all_modules_can_be_imported_alone(self):
        for name in ("errors", "wholes", "rows", "trains", "outages", "states", "delays", "orders", "explained",
                     "playing", "routes", "texts"):
            self.assertEqual(importlib.import_module("breakerrow." + name).__name__, "breakerrow." + name)


class Conventions(Case):

    def test_by_position_and_by_name_in_any_order(self):
        for module, name, named in CALLS:
            with self.subTest(name):
                call = getattr(module, name)
                only = KEYWORD_ONLY.get(name, ())
                told = plain(call(*[value for key, value in named.items() if key not in only],
                                  **{key: named[key] for key in only}))
                self.assertEqual(plain(call(**named)), told)
                self.assertEqual(plain(call(**dict(reversed(list(named.items()))))), told)

    def test_the_same_call_again_and_unchanged_arguments(self):
        for module, name, named in CALLS:
            with self.subTest(name):
                call = getattr(module, name)
                before = {key: copy.deepcopy(plain(value)) for key, value in named.items()}
                told = copy.deepcopy(plain(call(**named)))
                for turn in range(2):
                    result = call(**named)
                    self.assertEqual(plain(result), told)
                    # What is returned belongs to the caller.
                    empty(result)
                self.assertEqual({key: plain(value) for key, value in named.items()}, before)

    def test_earlier_results_stay_as_they_are(self):
        results = [(getattr(module, name), named, getattr(module, name)(**named)) for module, name, named in CALLS]
        kept = [copy.deepcopy(plain(result)) for call, named, result in results]
        for call, named, result in results:
            call(**named)
        self.assertEqual([plain(result) for call, named, result in results], kept)

    def test_objects_are_equal_to_nothing_of_another_kind(self):
        groups = [[ROW, Row([(2, 3, 1), (1, 4, 1)], 1)], [Row([], 1)], [T, Trains(T.train_list())], [Trains([])],
                  [LINE, Timeline(ROW, [(10, 25), (40, 41)])], [Timeline(ROW, [])], [Playing(ROW), replay(ROW, [])],
                  [replay(ROW, ["up"])], [ROUTES, Routes(*ROUTES.parts())], [Routes([], [([], [])], [0], 1)],
                  [D], [None], [[]], [()], [""], [{}], [0], [1], [ROW.breaker_list()], [T.train_list()],
                  [ROUTES.parts()], [WORDS], [object()]]
        for place, group in enumerate(groups):
            for other_place, other_group in enumerate(groups):
                for one in group:
                    for other in other_group:
                        self.assertIs(one == other, place == other_place)
                        self.assertIs(one != other, place != other_place)

    def test_only_request_and_undo_change_a_playing(self):
        p = replay(ROW, WORDS)
        before = plain(p)
        for call in (p.base_row, p.next_request, p.state_list, p.is_whole, p.log, lambda: p == Playing(ROW),
                     lambda: p != p, lambda: replay(p.base_row(), p.log()).request("up")):
            call()
            self.assertEqual(plain(p), before)
        for call in (lambda: p.request("no"), lambda: p.undo(4), lambda: p.undo(None), lambda: p.request([])):
            self.assertRaises(BreakerError, call)
            self.assertEqual(plain(p), before)
        p.request("up")
        self.assertNotEqual(plain(p), before)
        p.undo(1)
        self.assertEqual(plain(p), before)

    def test_lists_that_were_passed_may_be_changed(self):
        for module, name in ((rows, "Row"), (trains, "Trains"), (outages, "Timeline"), (delays, "Delays"),
                             (playing, "replay"), (routes, "Routes")):
            with self.subTest(name):
                named = next(named for module, called, named in CALLS if called == name)
                passed = copy.deepcopy({key: value for key, value in named.items() if isinstance(value, list)})
                result = getattr(module, name)(**{**named, **passed})
                before = copy.deepcopy(plain(result))
                for value in passed.values():
                    empty(value)
                    value.append(None)
                self.assertEqual(plain(result), before)


class Unusual:
    """An object that is equal to all others and cannot be hashed."""

    def __eq__(self, other):
        return True


class Errors(Case):

    def test_each_argument_may_be_any_object(self):
        for module, name, named in CALLS:
            for key, value in named.items():
                # These take all objects, and no error is promised for other objects than those of the package.
                if name in ("is_integer", "same_text") or isinstance(value, (Row, Trains, Timeline, Delays, Routes)):
                    continue
                for wrong in (Unusual(), [Unusual()], [[]], {}, True):
                    with self.subTest(name=name, key=key, wrong=wrong):
                        self.assertRaises(BreakerError, getattr(module, name), **{**named, key: wrong})

    def test_rows_where_an_error_is_promised_for_other_objects(self):
        for wrong in (Unusual(), [Unusual()], None, True, {}):
            for call in (Playing, lambda row: replay(row, []), lambda row: playing.outcomes(row, [])):
                self.assertRaises(errors.InvalidRow, call, wrong)
            self.assertRaises(InvalidTrains, lambda: T + wrong)
            self.assertRaises(errors.InvalidRow, lambda: ROW + wrong)
            self.assertRaises(InvalidIndex, lambda: ROW[wrong])
            self.assertRaises(InvalidIndex, lambda: T[wrong])
            self.assertRaises(InvalidIndex, lambda: LINE[wrong])
            self.assertRaises(InvalidTime, lambda: D[wrong])
            self.assertRaises(InvalidCall, Playing(ROW).request, wrong)
            self.assertIs(wrong in ROW, False)
            self.assertIs(wrong in T, False)
            self.assertIs(texts.same_text(wrong, wrong), False)
            self.assertIs(wholes.is_integer(wrong), False)

    def test_fields_are_set_when_an_error_is_created(self):
        for name, fields in ERRORS.items():
            value = [object()]
            raised = getattr(errors, name)(*[value] * len(fields))
            self.assertEqual([getattr(raised, field) for field in fields], [value] * len(fields))


class GreatNumbers(Case):

    def test_thirty_digits(self):
        great = Row([(10 ** 12, MOST - 1, 10 ** 12), (10 ** 11 + 7, MOST // 3, 1)], 10 ** 29 + 1, phase=MOST)
        self.assertEqual(texts.parse_row(texts.format_row(great)), great)
        bounds = explained.waits_of(rows.periods(great))
        self.assertEqual([low <= breaker[1] <= high for (low, high), breaker in zip(bounds, great.breaker_list())],
                         [True, True])
        p = replay(great, WORDS)
        self.assertEqual((p.next_request(), p.state_list()), (MOST + 3 * (10 ** 29 + 1), [("closed", 0)] * 2))
        services = [(great.breaker_list(), [(MOST - 2, MOST - 1)])] * 10
        parts = (great.breaker_list(), services, [9, 0], MOST)
        self.assertEqual(Routes(*parts).parts(), parts)
        self.assertEqual(routes.first_opening(Routes(*parts), list(range(10))), (10 ** 11 + 6, [1]))

    def test_times_of_500_digits_in_logs_and_forecasts(self):
        far = 10 ** 499
        times = [0, far, far + MOST - 1, far + MOST, 9 * far]
        log = explained.log_of((2, MOST, 1), times)
        self.assertEqual([passed for time, passed in log], [True, True, False, True, True])
        self.assertEqual(explained.explanations(log), [(1, MOST, MOST), (2, MOST, MOST)])
        self.assertIsNone(explained.first_conflict(log))
        self.assertEqual([explained.forecast(log, 9 * far + more) for more in (1, MOST - 1, MOST, far - 1)],
                         ["reject", "reject", "pass", "pass"])
