"""Logs of what one breaker did while all that it passed failed, and the breakers and waits that explain them."""

from breakerrow.errors import InvalidLog, InvalidRow, InvalidTime
from breakerrow.rows import MOST_BREAKERS, MOST_TIME, is_breaker
from breakerrow.sending import passes, state_behind
from breakerrow.wholes import is_at_least, is_within

MOST_ENTRIES = 1000


def check_times(times):
    """Raise an error if a value is not an ascending list of times for a log."""
    if not isinstance(times, list) or len(times) > MOST_ENTRIES:
        raise InvalidLog(-1)
    least = 0
    for at, time in enumerate(times):
        if not is_at_least(time, least):
            raise InvalidLog(at)
        least = time + 1


def log_of(breaker, times):
    """Return the log of a breaker to which requests come at some times."""
    if not is_breaker(breaker):
        raise InvalidRow("breaker", -1)
    check_times(times)
    log = []
    state = ("closed", 0)
    for time in times:
        passed = passes(breaker, state, time)
        if passed:
            state = state_behind(breaker, state, time, False)
        log.append((time, passed))
    return log


def is_entry(value):
    """Return whether a value is an entry of a log."""
    if not isinstance(value, tuple) or len(value) != 2:
        return False
    time, passed = value
    return is_at_least(time, 0) and isinstance(passed, bool)


def check_log(log):
    """Raise an error if a value is not a log."""
    if not isinstance(log, list) or len(log) > MOST_ENTRIES:
        raise InvalidLog(-1)
    latest = -1
    for at, entry in enumerate(log):
        if not is_entry(entry) or entry[0] <= latest:
            raise InvalidLog(at)
        latest = entry[0]


def passes_ahead(log):
    """Return how many entries of a log there are before the first one that was rejected."""
    for at, entry in enumerate(log):
        if not entry[1]:
            return at
    return len(log)


def gaps_of(log):
    """Return for each entry of a log how long it is behind the last one before it that was passed, or None."""
    gaps = []
    latest = None
    for time, passed in log:
        gaps.append(None if latest is None else time - latest)
        if passed:
            latest = time
    return gaps


def narrowed(bounds, gap, passed):
    """Return the bounds of those waits between some bounds with which an open breaker passes, or rejects, a request."""
    low, high = bounds
    if passed:
        return (low, min(high, gap))
    return (max(low, gap + 1), high)


def explanations(log):
    """Return for each number of failures the least and the greatest wait with which a breaker explains a log."""
    check_log(log)
    ahead = passes_ahead(log)
    if ahead == 0:
        # No breaker rejects the first request.
        return [] if log else [(1, 1, MOST_TIME)]
    gaps = gaps_of(log)
    bounds = (1, MOST_TIME)
    found = []
    # A breaker opens first at the last of its failures, so that only the entries behind this one bound its wait.
    for failures in range(len(log), 0, -1):
        if failures < len(log):
            bounds = narrowed(bounds, gaps[failures], log[failures][1])
        if failures <= ahead and bounds[0] <= bounds[1]:
            found.append((failures, bounds[0], bounds[1]))
    return found[::-1]


def first_conflict(log):
    """Return the index of the first entry that no breaker explains together with those before it, or None."""
    check_log(log)
    ahead = passes_ahead(log)
    if ahead == 0:
        # No breaker rejects the first request.
        return 0 if log else None
    gaps = gaps_of(log)
    bounds = (1, MOST_TIME)
    # If any breaker explains the log so far, one does that opens at the last entry before the first rejected one.
    for at in range(ahead, len(log)):
        bounds = narrowed(bounds, gaps[at], log[at][1])
        if bounds[0] > bounds[1]:
            return at
    return None


def forecast(log, time):
    """Return whether the breakers that explain a log "pass" or "reject" a next request, or "either" happens."""
    check_log(log)
    if not is_at_least(time, log[-1][0] + 1 if log else 0):
        raise InvalidTime(time)
    conflict = first_conflict(log)
    if conflict is not None:
        raise InvalidLog(conflict)
    if log == []:
        return "pass"
    gap = gaps_of(log + [(time, True)])[-1]
    found = explanations(log)
    # Breakers that are still closed behind the log are not among these, but where there are such, one with the wait 1
    # is, and it passes the request as they do.
    if max([high for failures, low, high in found]) <= gap:
        return "pass"
    if min([low for failures, low, high in found]) > gap:
        return "reject"
    return "either"


def check_periods(period_list):
    """Raise an error if a value is not a list of the periods of a row."""
    # The step is ahead of the periods of the breakers.
    if not isinstance(period_list, list) or not 1 <= len(period_list) <= MOST_BREAKERS + 1:
        raise InvalidLog(-1)
    if not is_within(period_list[0], 1, MOST_TIME):
        raise InvalidLog(0)
    for at in range(1, len(period_list)):
        coming = period_list[at - 1]
        period = period_list[at]
        # The least wait with this period may not be too great.
        if not is_within(period, coming, coming + MOST_TIME - 1) or period % coming != 0:
            raise InvalidLog(at)


def waits_of(period_list):
    """Return for the periods of a row the least and the greatest wait that each of its breakers can have."""
    check_periods(period_list)
    return [(period - coming + 1, min(period, MOST_TIME)) for coming, period in zip(period_list, period_list[1:])]
