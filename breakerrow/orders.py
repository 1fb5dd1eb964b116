"""Other orders of the breakers of a row, rows with fewer breakers, and rows with another wait of a breaker."""

from breakerrow.errors import InvalidBound, InvalidIndex, LimitExceeded
from breakerrow.rows import MOST_TIME, Row, periods, row_period
from breakerrow.wholes import is_integer, is_within, rounded_up

MOST_ORDERED = 7
MOST_PERIODS = 2000


def check_index(row, index):
    """Raise an error if there is no breaker with an index."""
    if not is_within(index, 0, len(row) - 1):
        raise InvalidIndex(index)


def row_of(row, breakers):
    """Return the row with other breakers, and all else as in a row."""
    return Row(breakers, row.step_length(), phase=row.phase_time())


def is_order(value, length):
    """Return whether a value is a list that contains each index below a length once."""
    if not isinstance(value, list) or len(value) != length:
        return False
    for at in value:
        if not is_integer(at):
            return False
    return sorted(value) == list(range(length))


def reordered(row, order):
    """Return the row in which the breakers stand in another order."""
    if not is_order(order, len(row)):
        raise InvalidBound("order")
    return row_of(row, [row[at] for at in order])


def all_orders(row):
    """Return the list of (period, order) for all orders of the breakers, the least order first."""
    if len(row) > MOST_ORDERED:
        raise LimitExceeded(MOST_ORDERED)
    waits = [breaker[1] for breaker in row.breaker_list()]
    ways = [(row.step_length(), [])]
    for place in range(len(waits)):
        ways = [(rounded_up(wait, period), order + [at])
                for period, order in ways for at, wait in enumerate(waits) if at not in order]
    return ways


def best_order(row):
    """Return the least period at the service over all orders, and the least order that reaches it."""
    return min(all_orders(row))


def worst_order(row):
    """Return the greatest period at the service over all orders, and the least order that has it."""
    ways = all_orders(row)
    worst = ways[0]
    for way in ways:
        if way[0] > worst[0]:
            worst = way
    return worst


def without(row, index):
    """Return the row without a breaker."""
    check_index(row, index)
    breakers = row.breaker_list()
    return row_of(row, breakers[:index] + breakers[index + 1:])


def with_wait(row, index, wait):
    """Return the row in which a breaker has another wait."""
    check_index(row, index)
    if not is_within(wait, 1, MOST_TIME):
        raise InvalidBound("wait")
    breakers = row.breaker_list()
    failures, old, successes = breakers[index]
    breakers[index] = (failures, wait, successes)
    return row_of(row, breakers)


def removal_periods(row):
    """Return for each breaker the period at the service of the row without it."""
    return [row_period(without(row, index)) for index in range(len(row))]


def period_behind(period, breakers):
    """Return the period of what some breakers pass to which requests come with a period."""
    found = period
    for breaker in breakers:
        found = rounded_up(breaker[1], found)
    return found


def harmful_lowerings(row, index):
    """Return the ranges of the waits of a breaker below its own one that make the period at the service greater."""
    check_index(row, index)
    unit, own = periods(row)[index:index + 2]
    if own > (MOST_PERIODS + 1) * unit:
        raise LimitExceeded(MOST_PERIODS)
    later = row.breaker_list()[index + 1:]
    usual = row_period(row)
    found = []
    # A lower wait with the same period does no harm; all waits with one of the other periods are lower.
    for period in range(unit, own, unit):
        if period_behind(period, later) > usual:
            low = period - unit + 1
            if found and found[-1][1] + 1 == low:
                low = found.pop()[0]
            found.append((low, period))
    return found


def best_raise(row, index, most):
    """Return the least period at the service over the waits of a breaker up to a bound, and the least such wait."""
    check_index(row, index)
    wait = row[index][1]
    if not is_within(most, wait, MOST_TIME):
        raise InvalidBound("most")
    unit, own = periods(row)[index:index + 2]
    top = rounded_up(most, unit)
    if top - own > MOST_PERIODS * unit:
        raise LimitExceeded(MOST_PERIODS)
    later = row.breaker_list()[index + 1:]
    found = [(period_behind(own, later), wait)]
    for period in range(own + unit, top + 1, unit):
        found.append((period_behind(period, later), period - unit + 1))
    return min(found)
