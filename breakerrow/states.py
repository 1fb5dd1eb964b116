"""States of the breakers of a timeline, and counts of what happens to its requests."""

from breakerrow.errors import InvalidBound, InvalidIndex, InvalidTime
from breakerrow.outages import latest_spell, spell_at
from breakerrow.rows import first_request
from breakerrow.runs import number_before
from breakerrow.sending import closed_states
from breakerrow.spells import state_within, states_behind
from breakerrow.wholes import is_at_least, is_within


def check_breaker(breaker, last):
    """Raise an error if a value is not a number of a breaker up to a last one."""
    if not is_within(breaker, 0, last):
        raise InvalidIndex(breaker)


def check_window(first, after):
    """Raise an error if two values are not the bounds of a window."""
    if not is_at_least(first, 0):
        raise InvalidBound("first")
    if not is_at_least(after, first):
        raise InvalidBound("after")


def states_at(timeline, time):
    """Return the list of the states of the breakers behind the last request at a time or before it."""
    if not is_at_least(time, 0):
        raise InvalidTime(time)
    latest = latest_spell(timeline, time)
    if latest is None:
        return closed_states(len(timeline.row))
    spell = timeline.spells[latest]
    if time >= spell.recovered:
        return states_behind(timeline.row, spell, time)
    return [state_within(spell, breaker, time) for breaker in range(len(timeline.row))]


def came(timeline, breaker, first, after):
    """Return how many requests of a window come to a breaker, or to the service behind all breakers."""
    check_breaker(breaker, len(timeline.row))
    check_window(first, after)
    # Outside of the spells all requests come to all breakers and to the service.
    return (requests_within(timeline, first, after) - came_in_spells(timeline, 0, first, after)
            + came_in_spells(timeline, breaker, first, after))


def rejected(timeline, breaker, first, after):
    """Return how many requests of a window a breaker rejects."""
    check_breaker(breaker, len(timeline.row) - 1)
    check_window(first, after)
    return (came_in_spells(timeline, breaker, first, after)
            - came_in_spells(timeline, breaker + 1, first, after))


def failed(timeline, first, after):
    """Return how many requests of a window do not succeed."""
    check_window(first, after)
    return came_in_spells(timeline, 0, first, after)


def succeeded(timeline, first, after):
    """Return how many requests of a window succeed."""
    check_window(first, after)
    return requests_within(timeline, first, after) - came_in_spells(timeline, 0, first, after)


def requests_within(timeline, first, after):
    """Return the number of the requests of a window."""
    return first_request(timeline.row, after) - first_request(timeline.row, first)


def came_in_spells(timeline, breaker, first, after):
    """Return how many requests of a window that belong to spells come to a breaker, or to the service."""
    total = 0
    for spell in timeline.spells:
        low = max(first, spell.first)
        high = min(after, spell.recovered)
        if low < high:
            total += number_before(spell.runs[breaker], high) - number_before(spell.runs[breaker], low)
    return total


def outcome(timeline, time):
    """Return what happens to the request at a time."""
    if time not in timeline.row:
        raise InvalidTime(time)
    at = spell_at(timeline, time)
    if at is None:
        return ("served",)
    passed = timeline.spells[at].runs[1:]
    for breaker, runs in enumerate(passed):
        if number_before(runs, time) == number_before(runs, time + 1):
            return ("rejected", breaker)
    return ("failed",)


def time_open(timeline, breaker, first, after):
    """Return how many times of a window a breaker is open."""
    check_breaker(breaker, len(timeline.row) - 1)
    check_window(first, after)
    total = 0
    for spell in timeline.spells:
        opening = spell.opened[breaker]
        # From then on until the end of the spell, all that the breaker passes opens it anew.
        if opening is not None:
            total += max(0, min(after, spell.recovered) - max(first, opening))
    return total
