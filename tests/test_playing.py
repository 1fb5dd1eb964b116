"""Rows played call by call: requests (points 41 to 43), logs and undoing (point 44), replays (point 45)."""

from breakerrow.errors import InvalidBound, InvalidCall, InvalidLog, InvalidRow, LimitExceeded
from breakerrow.outages import Timeline
from breakerrow.playing import Playing, outcomes, replay
from breakerrow.rows import Row
from breakerrow.states import came, failed, outcome, rejected, states_at, succeeded
from tests.played import is_up, random_outages, random_row, send
from tests.support import NOT_INTEGERS, Case, seeded

MOST = 10 ** 30
ROW = Row([(2, 3, 1)], 1)
NO_ROWS = (None, True, 1, "", "row 1 0", b"", [], {}, set(), (), object(), [(2, 3, 1)], (2, 3, 1), Row,
           Timeline(ROW, []), Playing(ROW))
NO_WORDS = NOT_INTEGERS + (0, 1, "Up", "UP", "up ", " down", "Down", "do", "updown", "u", b"up", b"down", ["up"],
                           ("up",), {"up"}, {"up": "down"}, "served", Row([], 1), Playing(ROW))
NO_LISTS = (None, True, 0, "", "up", b"", (), ("up",), {}, {"up": "up"}, set(), {"up"}, object(), iter(["up"]), ROW)


def random_words(source, most=60):
    """Return random words, in which the service is often down for a while."""
    words = []
    for place in range(source.randint(0, most)):
        if not words or source.random() < 0.3:
            word = source.choice(("up", "down"))
        words.append(word)
    return words


def sent_one_by_one(row, words):
    """List what happens to each request and the states behind it, by the rules of point 6."""
    found = []
    states = [("closed", 0)] * len(row)
    for number, word in enumerate(words):
        time = row.phase_time() + number * row.step_length()
        told, states = send(row.breaker_list(), states, time, word == "up")
        found.append((told, states))
    return found


def seen(playing):
    """Return all that a Playing tells without being changed."""
    return playing.base_row(), playing.next_request(), playing.state_list(), playing.is_whole(), playing.log()


class Requests(Case):

    def test_the_examples(self):
        p = Playing(ROW)
        self.assertEqual([p.request("down"), p.request("down"), p.request("up")],
                         [("failed",), ("failed",), ("rejected", 0)])
        p = Playing(ROW)
        self.assertEqual([p.request("down"), p.state_list()], [("failed",), [("closed", 1)]])
        self.assertEqual([p.request("down"), p.state_list()], [("failed",), [("open", 1)]])

    def test_rows_of_all_kinds_request_by_request(self):
        source = seeded("playing")
        numbers, met = set(), set()
        for turn in range(400):
            row, words = random_row(source), random_words(source)
            numbers.add(len(row))
            playing = Playing(row)
            self.assertEqual(seen(playing), (row, row.phase_time(), [("closed", 0)] * len(row), True, []))
            for number, (told, states) in enumerate(sent_one_by_one(row, words)):
                self.assertEqual(playing.next_request(), row.phase_time() + number * row.step_length())
                self.assertEqual(playing.request(words[number]), told)
                self.assertEqual(playing.state_list(), states)
                self.assertIs(playing.is_whole(), all(state == ("closed", 0) for state in states))
                self.assertEqual(playing.log(), words[:number + 1])
                met.add(told[0])
                met.update(kind for kind, count in states)
        self.assertEqual(numbers, {0, 1, 2, 3, 4, 5})
        self.assertEqual(met, {"served", "failed", "rejected", "closed", "open", "half"})

    def test_a_breaker_through_all_its_states(self):
        p = Playing(Row([(2, 3, 2)], 1, phase=10))
        told = []
        for word in ("down", "up", "down", "down", "up", "down", "up", "up", "down"):
            told.append((p.next_request(), p.request(word), p.state_list()[0], p.is_whole()))
        self.assertEqual(told, [
            (10, ("failed",), ("closed", 1), False), (11, ("served",), ("closed", 0), True),
            (12, ("failed",), ("closed", 1), False), (13, ("failed",), ("open", 13), False),
            (14, ("rejected", 0), ("open", 13), False), (15, ("rejected", 0), ("open", 13), False),
            (16, ("served",), ("half", 1), False), (17, ("served",), ("closed", 0), True),
            (18, ("failed",), ("closed", 1), False)])
        p.request("down")
        self.assertEqual([p.request(word) for word in ("up", "up", "up", "down", "up")],
                         [("rejected", 0), ("rejected", 0), ("served",), ("failed",), ("rejected", 0)])
        self.assertEqual(p.state_list(), [("open", 23)])

    def test_a_later_breaker_rejects(self):
        # The first breaker passes what the second one rejects, and this fails for the first.
        p = Playing(Row([(3, 2, 1), (1, 5, 1)], 1))
        self.assertEqual([p.request(word) for word in ("down", "up", "up", "up", "up", "up", "up")],
                         [("failed",), ("rejected", 1), ("rejected", 1), ("rejected", 0), ("rejected", 1),
                          ("rejected", 0), ("served",)])
        self.assertEqual(p.state_list(), [("closed", 0), ("closed", 0)])

    def test_without_breakers(self):
        p = Playing(Row([], 4, phase=3))
        self.assertEqual([p.request("down"), p.request("up"), p.next_request(), p.state_list(), p.is_whole()],
                         [("failed",), ("served",), 11, [], True])

    def test_great_numbers(self):
        p = Playing(Row([(1, MOST, 10 ** 12), (10 ** 12, 1, 1)], MOST, phase=MOST))
        self.assertEqual([p.request("down"), p.request("up"), p.next_request()], [("failed",), ("served",), 3 * MOST])
        self.assertEqual(p.state_list(), [("half", 1), ("closed", 0)])
        p = Playing(Row([(1, MOST, 1)], MOST - 1, phase=5))
        self.assertEqual([p.request(word) for word in ("down", "up", "up")],
                         [("failed",), ("rejected", 0), ("served",)])

    def test_values_that_are_no_row(self):
        for row in NO_ROWS:
            with self.subTest(row=row):
                self.assert_error(InvalidRow, {"part": "row", "at": -1}, Playing, row)
                self.assert_error(InvalidRow, {"part": "row", "at": -1}, Playing, row=row)

    def test_values_that_are_no_word(self):
        p = replay(ROW, ["up", "down", "down"])
        before = seen(p)
        for word in NO_WORDS:
            with self.subTest(word=word):
                self.assert_error(InvalidCall, {"call": word}, p.request, word)
                self.assert_error(InvalidCall, {"call": word}, p.request, word=word)
        self.assertEqual(seen(p), before)

    def test_ten_thousand_requests(self):
        p = Playing(Row([(2, 3, 1)], 1, phase=7))
        for number in range(9999):
            p.request("down" if number < 5000 else "up")
        self.assertEqual((p.next_request(), p.request(word="down"), p.next_request()), (10006, ("failed",), 10007))
        before = seen(p)
        for word in ("up", "down"):
            self.assert_error(LimitExceeded, {"limit": 10000}, p.request, word)
        for word in NO_WORDS:
            self.assert_error(InvalidCall, {"call": word}, p.request, word)
        self.assertEqual(seen(p), before)
        p.undo(1)
        self.assertEqual(p.request("up"), ("served",))
        self.assert_error(LimitExceeded, {"limit": 10000}, p.request, "up")

    def test_returned_lists_belong_to_the_caller(self):
        p = replay(ROW, ["down", "down"])
        before = seen(p)
        p.state_list().clear()
        p.log().append("up")
        p.base_row().breaker_list().clear()
        self.assertEqual(seen(p), before)
        kept = p.state_list(), p.log()
        p.request("up")
        p.undo(2)
        self.assertEqual(kept, ([("open", 1)], ["down", "down"]))

    def test_playings_of_one_row_do_not_meet(self):
        one, other = Playing(ROW), Playing(ROW)
        one.request("down")
        self.assertEqual((other.log(), other.state_list(), one.log()), ([], [("closed", 0)], ["down"]))


class BesideTimelines(Case):

    def test_driven_as_the_outages_say(self):
        source = seeded("driven")
        for turn in range(150):
            row, outages = random_row(source), random_outages(source)
            t, p = Timeline(row, outages), Playing(row)
            told = []
            while len(told) < 90:
                time = p.next_request()
                told.append(p.request("up" if is_up(outages, time) else "down"))
                self.assertEqual((told[-1], p.state_list()), (outcome(t, time), states_at(t, time)))
            after = p.next_request()
            served = told.count(("served",))
            self.assertEqual((succeeded(t, 0, after), failed(t, 0, after)), (served, len(told) - served))
            for breaker in range(len(row)):
                before = [one for one in told if one[0] == "rejected" and one[1] < breaker]
                self.assertEqual(rejected(t, breaker, 0, after), told.count(("rejected", breaker)))
                self.assertEqual(came(t, breaker, 0, after), len(told) - len(before))

    def test_great_steps(self):
        step = 10 ** 27
        row = Row([(2, 3 * step, 2), (1, 4 * step - 5, 3)], step, phase=11)
        outages = [(3 * step, 9 * step), (20 * step + 11, 20 * step + 12), (25 * step, 60 * step)]
        t, p = Timeline(row, outages), Playing(row)
        for number in range(100):
            time = p.next_request()
            self.assertEqual(p.request("up" if is_up(outages, time) else "down"), outcome(t, time))
            self.assertEqual(p.state_list(), states_at(t, time))


class Undoing(Case):

    def test_the_example(self):
        p = Playing(ROW)
        p.request("up")
        self.assertEqual(p.log(), ["up"])

    def test_some_and_all_requests_and_what_follows(self):
        source = seeded("undoing")
        for turn in range(200):
            row, words, more = random_row(source), random_words(source), random_words(source, 20)
            p = replay(row, words)
            for count in (0, source.randint(0, len(words)), None):
                left = p.log()
                # The last turn goes back to the row before its first request.
                count = len(left) if count is None else min(count, len(left))
                self.assertIsNone(p.undo(count))
                left = left[:len(left) - count]
                self.assertEqual(seen(p), seen(replay(row, left)))
                self.assertEqual(p, replay(row, left))
                told = [p.request(word) for word in more]
                self.assertEqual(told, outcomes(row, left + more)[len(left):])
                self.assertEqual(seen(p), seen(replay(row, left + more)))
                p.undo(count=len(more))
                self.assertEqual(seen(p), seen(replay(row, left)))
            self.assertEqual(p, Playing(row))

    def test_one_by_one(self):
        p = replay(ROW, ["down", "down", "up", "up", "up"])
        states = []
        while p.log():
            states.append(p.state_list()[0])
            p.undo(1)
        self.assertEqual(states, [("closed", 0), ("open", 1), ("open", 1), ("open", 1), ("closed", 1)])
        self.assertEqual(seen(p), (ROW, 0, [("closed", 0)], True, []))

    def test_values_that_are_no_count(self):
        p = replay(ROW, ["down", "down", "up"])
        before = seen(p)
        for count in NOT_INTEGERS + (-1, 4, 10001, MOST, -MOST):
            with self.subTest(count=count):
                self.assert_error(InvalidBound, {"part": "count"}, p.undo, count)
        self.assertEqual(seen(p), before)
        self.assert_error(InvalidBound, {"part": "count"}, Playing(ROW).undo, 1)
        self.assertIsNone(Playing(ROW).undo(0))

    def test_all_of_ten_thousand(self):
        p = replay(ROW, ["down", "up"] * 5000)
        p.undo(10000)
        self.assertEqual(p, Playing(ROW))


class Equality(Case):

    def test_of_the_same_row_and_log(self):
        for words in ([], ["up"], ["down", "down", "up"]):
            one, other = replay(ROW, words), replay(Row([(2, 3, 1)], 1), words)
            self.assertIs(one == other, True)
            self.assertIs(one != other, False)
        one, other = replay(ROW, ["up", "up"]), replay(ROW, ["up"])
        self.assertIs(one == other, False)
        other.request("up")
        self.assertIs(one == other, True)
        one.undo(1)
        self.assertIs(one == other, False)

    def test_of_another_row_or_log(self):
        base = replay(ROW, ["up", "down"])
        for row in (Row([(2, 3, 2)], 1), Row([(2, 3, 1)], 2), Row([(2, 3, 1)], 1, phase=1), Row([], 1), ROW + ROW):
            self.assertIs(base == replay(row, ["up", "down"]), False)
            self.assertIs(base != replay(row, ["up", "down"]), True)
        # The states are equal, and the times are, but the logs are not.
        self.assertIs(replay(ROW, ["up", "down"]) == replay(ROW, ["down", "down"]), False)
        self.assertIs(replay(ROW, ["down", "up"]) == replay(ROW, ["up", "up"]), False)

    def test_of_nothing_else(self):
        for other in NO_ROWS + (ROW, ["up"], object()):
            if other != Playing(ROW):
                self.assertIs(Playing(ROW) == other, False)
                self.assertIs(other == Playing(ROW), False)
                self.assertIs(Playing(ROW) != other, True)


class Replays(Case):

    def test_the_examples(self):
        self.assertEqual(outcomes(Row([(1, 2, 1)], 1), ["down", "up", "up"]),
                         [("failed",), ("rejected", 0), ("served",)])
        self.assert_error(InvalidLog, {"at": 1}, replay, Row([], 1), ["up", "no"])

    def test_beside_a_playing_driven_by_the_same_words(self):
        source = seeded("replays")
        for turn in range(300):
            row, words = random_row(source), random_words(source)
            kept = list(words)
            driven = Playing(row)
            told = [driven.request(word) for word in words]
            self.assertEqual(outcomes(row, words), told)
            self.assertEqual(told, [told for told, states in sent_one_by_one(row, words)])
            self.assertEqual(replay(row, words), driven)
            self.assertEqual(seen(replay(log=words, row=row)), seen(driven))
            self.assertEqual(outcomes(log=words, row=row), told)
            self.assertEqual(words, kept)

    def test_the_passed_list_is_copied(self):
        words = ["down", "down"]
        p = replay(ROW, words)
        words.append("up")
        self.assertEqual(p.log(), ["down", "down"])
        p.request("up")
        self.assertEqual(words, ["down", "down", "up"])
        outcomes(ROW, words).clear()
        self.assertEqual(outcomes(ROW, words), [("failed",), ("failed",), ("rejected", 0)])

    def test_ten_thousand_words_and_one_more(self):
        row = Row([(2, 3, 1), (1, 4, 1)] * 6, 1)
        words = ["down"] * 10000
        p = replay(row, words)
        self.assertEqual((p.next_request(), len(outcomes(row, words))), (10000, 10000))
        self.assert_error(LimitExceeded, {"limit": 10000}, p.request, "up")
        for function in (replay, outcomes):
            self.assert_error(InvalidLog, {"at": -1}, function, row, words + ["up"])
            self.assert_error(InvalidLog, {"at": -1}, function, row, [None] * 10001)
            self.assert_error(InvalidLog, {"at": 9999}, function, row, words[1:] + ["no"])

    def test_the_first_wrong_word(self):
        for function in (replay, outcomes):
            for word in NO_WORDS:
                with self.subTest(word=word):
                    self.assert_error(InvalidLog, {"at": 0}, function, ROW, [word])
                    self.assert_error(InvalidLog, {"at": 2}, function, ROW, ["up", "down", word, "up", "no"])
            for log in NO_LISTS:
                with self.subTest(log=log):
                    self.assert_error(InvalidLog, {"at": -1}, function, ROW, log)

    def test_the_row_is_checked_first(self):
        for function in (replay, outcomes):
            for row in NO_ROWS:
                for log in ([], ["up"], ["no"], None, [None] * 10001):
                    self.assert_error(InvalidRow, {"part": "row", "at": -1}, function, row, log)

    def test_no_words(self):
        self.assertEqual(outcomes(ROW, []), [])
        self.assertEqual(replay(ROW, []), Playing(ROW))
