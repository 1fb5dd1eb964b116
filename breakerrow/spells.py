"""Spells: the requests from one that fails on until one succeeds again, as trains of what comes to each breaker."""

from breakerrow.rows import first_request, request_time
from breakerrow.runs import divided_runs, last_time, number_before, thinned_runs, time_from, time_until
from breakerrow.sending import closed_states


class Spell:
    """A spell.

    `first` is the time of its first request, `recovered` that of the first success behind it, None if there is none.
    `begun` has the states of the breakers before the first request. `runs` has, for each breaker and then for the
    service, the trains of what comes to it; they go on as if no request succeeded any more. `opened` has the time at
    which each breaker opens first, None if it does not.
    """

    def __init__(self, first, recovered, begun, runs, opened):
        self.first = first
        self.recovered = recovered
        self.begun = begun
        self.runs = runs
        self.opened = opened


def spells_of(row, outages):
    """Return the list of the spells of a row with some outages, of which the last one may have None as its end."""
    spells = []
    at = 0
    while at < len(outages):
        begin, end = outages[at]
        first = request_time(row, first_request(row, begin))
        if end is not None and first >= end:
            # No request meets this outage.
            at += 1
        else:
            begun = states_behind(row, spells[-1], first - 1) if spells else closed_states(len(row))
            spell, at = spell_from(row, first, begun, outages, at)
            spells.append(spell)
    return spells


def spell_from(row, first, begun, outages, at):
    """Return the spell that begins in the outage `at`, and the number of the first outage behind it."""
    runs = [[(first, row.step_length(), None)]]
    openings = []
    for breaker, state in zip(row.breaker_list(), begun):
        passed, opening = passed_runs(runs[-1], breaker, state)
        runs.append(passed)
        openings.append(opening)
    recovered, following = recovery(runs[-1], outages, at)
    opened = [opening if recovered is None or opening < recovered else None for opening in openings]
    return Spell(first, recovered, begun, runs, opened), following


def passed_runs(runs, breaker, state):
    """Return the trains of what a breaker passes if all of it fails, and the time at which it opens.

    The breaker is half open, or closed without failures; what comes to it does not end.
    """
    failures, wait, successes = breaker
    needed = failures if state[0] == "closed" else 1
    head, tail = divided_runs(runs, needed)
    opening = last_time(head[-1])
    return head + thinned_runs(tail, wait, opening), opening


def recovery(runs, outages, at):
    """Return the first time of trains behind the outage `at` that is in none, and the number of the next outage.

    The time is None if an outage without end comes before it.
    """
    following = at
    while True:
        end = outages[following][1]
        following += 1
        if end is None:
            return None, following
        time = time_from(runs, end)
        if following == len(outages) or time < outages[following][0]:
            return time, following


def states_behind(row, spell, time):
    """Return the states of the breakers at a time from the end of a spell on, and before the next spell."""
    # All requests from the end of the spell on pass all breakers and succeed.
    successes = (time - spell.recovered) // row.step_length() + 1
    return [("half", successes) if opening is not None and successes < breaker[2] else ("closed", 0)
            for breaker, opening in zip(row.breaker_list(), spell.opened)]


def state_within(spell, breaker, time):
    """Return the state of a breaker, given by its number, at a time of a spell."""
    opening = spell.opened[breaker]
    if opening is None or time < opening:
        # A half open breaker opens with the first request, so this one was closed before it, without failures.
        return ("closed", number_before(spell.runs[breaker], time + 1))
    # All that an open breaker passes fails, so that it opens anew each time.
    return ("open", time_until(spell.runs[breaker + 1], time))


def whole_time(row, spell):
    """Return the first time from the end of a spell on behind which all breakers are closed, if no other one begins."""
    needed = [breaker[2] for breaker, opening in zip(row.breaker_list(), spell.opened) if opening is not None]
    # The request at the end of the spell is the first success.
    return spell.recovered + (max([1] + needed) - 1) * row.step_length()
