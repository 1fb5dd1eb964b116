"""Great numbers at once, and small steps between them (points 1 and 3, beside points 6 and 16 to 25)."""

from breakerrow.delays import Delays
from breakerrow.outages import Timeline, arrivals, first_success, openings, spell_at, starts
from breakerrow.rows import Row
from breakerrow.states import came, failed, outcome, rejected, states_at, succeeded, time_open
from breakerrow.trains import latest_time, next_time
from tests.played import is_up, random_outages, random_row, send
from tests.support import Case, seeded

MOST = 10 ** 30
FAR = 10 ** 499


def great(source, most):
    """Return a number from 1 to a bound, of any length."""
    return min(most, source.randint(1, 10 ** source.randint(1, len(str(most)) - 1)))


def great_row(source, number):
    breakers = [(great(source, 10 ** 12), great(source, MOST), great(source, 10 ** 12)) for place in range(number)]
    return Row(breakers, source.choice((1, 7, great(source, 10 ** 12), great(source, MOST))),
               phase=source.choice((0, great(source, MOST))))


def great_outages(source, number):
    """Return so many outages, some of them short, and some nearly as long as they may be."""
    bounds = sorted({source.randint(0, MOST) for place in range(2 * number)})
    outages = list(zip(bounds[::2], bounds[1::2]))
    return [(begin, source.choice((end, min(end, begin + great(source, 10 ** 29))))) for begin, end in outages]


class StepByStep(Case):
    """From some requests to the next ones, by the rules of point 6: so all is right if it is right before the first."""

    def check(self, t, time):
        row, outages = t.base_row(), t.outage_list()
        step, breakers = row.step_length(), row.breaker_list()
        before = states_at(t, time - step) if time > row.phase_time() else [("closed", 0)] * len(row)
        up = is_up(outages, time)
        told, states = send(breakers, before, time, up)
        self.assertEqual((outcome(t, time), states_at(t, time)), (told, states))
        # Between two requests nothing changes.
        self.assertEqual(states_at(t, time + step - 1), states)
        served = int(told == ("served",))
        reached = told[1] if told[0] == "rejected" else len(row)
        window = (time, time + step)
        self.assertEqual((succeeded(t, *window), failed(t, *window)), (served, 1 - served))
        self.assertEqual([came(t, breaker, *window) for breaker in range(len(row) + 1)],
                         [int(breaker <= reached) for breaker in range(len(row) + 1)])
        self.assertEqual([rejected(t, breaker, *window) for breaker in range(len(row))],
                         [int(told == ("rejected", breaker)) for breaker in range(len(row))])
        self.assertEqual([time_open(t, breaker, *window) for breaker in range(len(row))],
                         [step * (kind == "open") for kind, number in states])
        self.assertEqual(spell_at(t, time) is None, bool(served))
        self.assertEqual(first_success(t, time) == time, bool(served))

    def times(self, t, source):
        """List times at which something happens, and times of requests around them."""
        row = t.base_row()
        found = []
        for begin, end in source.sample(t.outage_list(), min(12, len(t.outage_list()))):
            found += [begin, end]
        for index in source.sample(range(len(t)), min(12, len(t))):
            found += [time for time in t[index] if time is not None]
            found += [time for time in openings(t, index) if time is not None]
            for breaker in range(len(row) + 1):
                trains = arrivals(t, index, breaker)
                if len(trains):
                    middle = source.randint(t[index][0], t[index][1])
                    found += [next_time(trains, middle), latest_time(trains, middle), trains[0]]
        numbers = [(time - row.phase_time()) // row.step_length() for time in found if time is not None]
        numbers = sorted({max(0, number + more) for number in numbers for more in (-1, 0, 1, 2)})
        return [row.phase_time() + number * row.step_length() for number in numbers]

    def test_small_rows(self):
        source = seeded("small steps")
        for turn in range(40):
            t = Timeline(random_row(source), random_outages(source))
            for time in self.times(t, source):
                self.check(t, time)

    def test_great_rows(self):
        source = seeded("great steps")
        spells = 0
        for turn in range(50):
            t = Timeline(great_row(source, source.randint(0, 5)), great_outages(source, source.randint(1, 8)))
            spells += len(t)
            for time in self.times(t, source):
                self.check(t, time)
        self.assertGreater(spells, 60)

    def test_the_longest_rows(self):
        source = seeded("longest steps")
        for turn in range(3):
            t = Timeline(great_row(source, 12), great_outages(source, 50))
            self.assertEqual(len(t.outage_list()), 50)
            times = self.times(t, source)
            for time in source.sample(times, min(80, len(times))):
                self.check(t, time)


class Scaled(Case):
    """All times of a row and its outages multiplied by the same number: so are the times of the answers."""

    def test_rows_that_are_scaled(self):
        source = seeded("scaled timelines")
        scale = 10 ** 27
        for turn in range(150):
            row, outages = random_row(source), random_outages(source)
            breakers = [(failures, wait * scale, successes) for failures, wait, successes in row.breaker_list()]
            far = Row(breakers, row.step_length() * scale, phase=row.phase_time() * scale)
            one = Timeline(row, outages)
            other = Timeline(far, [(begin * scale, end * scale) for begin, end in outages])
            self.assertEqual(len(one), len(other))
            for index in range(len(one)):
                self.assertEqual(other[index], tuple(time and time * scale for time in one[index]))
                self.assertEqual(starts(other, index), starts(one, index))
                self.assertEqual(openings(other, index), [time and time * scale for time in openings(one, index)])
            first, after = sorted([source.randint(0, 150), source.randint(0, 150)])
            wide = (first * scale, after * scale)
            self.assertEqual((failed(other, *wide), succeeded(other, *wide)),
                             (failed(one, first, after), succeeded(one, first, after)))
            for breaker in range(len(row)):
                self.assertEqual(came(other, breaker + 1, *wide), came(one, breaker + 1, first, after))
                self.assertEqual(rejected(other, breaker, *wide), rejected(one, breaker, first, after))
                self.assertEqual(time_open(other, breaker, *wide), time_open(one, breaker, first, after) * scale)


class GreatNumbers(Case):

    def test_many_failures_and_successes(self):
        many = 10 ** 12
        t = Timeline(Row([(many, MOST // 10, many)], 1), [(5, MOST - 5)])
        # It opens with the last of its failures at 4 + 10 ** 12, and passes a request each 10 ** 29 from then on.
        opened = 4 + many
        recovered = opened + MOST
        self.assertEqual((len(t), t[0], openings(t, 0)), (1, (5, recovered, recovered + many - 1), [opened]))
        self.assertEqual(arrivals(t, 0, 1).train_list(), [(5, 1, many), (opened + MOST // 10, MOST // 10, 9)])
        self.assertEqual([states_at(t, time) for time in (opened - 1, opened, opened + MOST // 10 - 1)],
                         [[("closed", many - 1)], [("open", opened)], [("open", opened)]])
        self.assertEqual([states_at(t, recovered + more) for more in (-1, 0, 7, many - 2, many - 1, FAR)],
                         [[("open", opened + 9 * (MOST // 10))], [("half", 1)], [("half", 8)], [("half", many - 1)],
                          [("closed", 0)], [("closed", 0)]])
        self.assertEqual(rejected(t, 0, 0, FAR), recovered - 5 - many - 9)
        self.assertEqual(came(t, 1, 0, FAR), FAR - (recovered - 5 - many - 9))
        self.assertEqual((failed(t, 0, FAR), succeeded(t, 0, FAR)), (recovered - 5, FAR - recovered + 5))
        self.assertEqual(time_open(t, 0, 0, FAR), MOST)

    def test_a_wait_and_a_step_of_thirty_digits(self):
        t = Timeline(Row([(1, MOST, 1)], MOST - 1, phase=MOST), [(0, MOST)])
        self.assertEqual(len(t), 0)
        t = Timeline(Row([(1, MOST, 1)], MOST - 1, phase=1), [(0, MOST - 1)])
        self.assertEqual([t[0], states_at(t, MOST), outcome(t, MOST)],
                         [(1, 2 * MOST - 1, 2 * MOST - 1), [("open", 1)], ("rejected", 0)])

    def test_fifty_outages_and_twelve_breakers_at_once(self):
        tenth = MOST // 50
        outages = [(place * tenth, place * tenth + tenth - 10 ** 20) for place in range(50)]
        breakers = [(3 + place, 10 ** (14 - place) + place, 5 + place) for place in range(12)]
        t = Timeline(Row(breakers, 1), outages)
        self.assertEqual(len(t), 50)
        for index in (0, 1, 49):
            first, recovered, whole = t[index]
            self.assertEqual(first, outages[index][0])
            self.assertTrue(outages[index][1] <= recovered < outages[index][1] + 10 ** 15)
            self.assertEqual(whole, recovered + 15)
            self.assertEqual([time > first for time in openings(t, index)], [True] * 12)
        for end in (MOST - 1, MOST - 7, MOST - 10 ** 20):
            with_end = Timeline(Row(breakers, 1), outages[:49] + [(outages[49][0], end)])
            self.assertEqual(Delays(Row(breakers, 1), outages[:49], outages[49][0])[end],
                             first_success(with_end, end) - end)

    def test_delays_beside_timelines_of_great_numbers(self):
        source = seeded("great delays")
        for turn in range(60):
            row = great_row(source, source.randint(0, 12))
            outages = great_outages(source, source.randint(1, 6))
            begin = outages.pop()[0]
            d = Delays(row, outages, begin)
            for number in range(10):
                end = min(MOST, begin + great(source, MOST))
                if end > begin:
                    self.assertEqual(d[end], first_success(Timeline(row, outages + [(begin, end)]), end) - end)
