"""Trains as plain tuples (start, step, count), and lists of them: what stands behind the class Trains."""

from breakerrow.wholes import divisor_and_factor, is_at_least, steps_to


def is_train(value):
    """Return whether a value is a train."""
    if not isinstance(value, tuple) or len(value) != 3:
        return False
    start, step, count = value
    return is_at_least(start, 0) and is_at_least(step, 1) and (count is None or is_at_least(count, 1))


def last_time(train):
    """Return the last time of a train, None if it has no end."""
    start, step, count = train
    if count is None:
        return None
    return start + (count - 1) * step


def times_before(train, time):
    """Return how many times of a train are before a time."""
    start, step, count = train
    reached = steps_to(time - start, step)
    if count is None:
        return reached
    return min(reached, count)


def part_of(train, low, high):
    """Return a list with the train of the times with indices from low to high - 1, empty if there are none.

    Neither is above the count of the train; with None as `high` the part has no end.
    """
    start = train[0] + low * train[1]
    if high is None:
        return [(start, train[1], None)]
    if low == high:
        return []
    return [(start, train[1], high - low)]


def window_of(train, first, after):
    """Return a list with the train of the times from first to after - 1, empty if there are none."""
    high = train[2] if after is None else times_before(train, after)
    return part_of(train, times_before(train, first), high)


def thinned_run(train, wait, time):
    """Return a list with the train of what a breaker passes that passes nothing before a time, or an empty one."""
    start, step, count = train
    skipped = times_before(train, time)
    stride = steps_to(wait, step)
    if count is None:
        return [(start + skipped * step, stride * step, None)]
    if skipped == count:
        return []
    return [(start + skipped * step, stride * step, steps_to(count - skipped, stride))]


def window_runs(trains, first, after):
    """Return the trains of the times of some trains from first to after - 1."""
    return [part for train in trains for part in window_of(train, first, after)]


def thinned_runs(trains, wait, time):
    """Return the trains of what a breaker passes that has opened at a time, if all that it passes fails."""
    passed = []
    opened = time
    for train in trains:
        part = thinned_run(train, wait, opened + wait)
        passed.extend(part)
        # This is None behind a train without end, which is the last one.
        if part:
            opened = last_time(part[0])
    return passed


def divided_runs(trains, count):
    """Return the trains of the first so many times of some trains that have as many, and those of the others."""
    head = []
    tail = []
    left = count
    for train in trains:
        taken = left if train[2] is None else min(left, train[2])
        head.extend(part_of(train, 0, taken))
        tail.extend(part_of(train, taken, train[2]))
        left = left - taken
    return head, tail


def number_before(trains, time):
    """Return how many times of some trains are before a time."""
    return sum([times_before(train, time) for train in trains])


def time_from(trains, time):
    """Return the first time of some trains that is not before a time, None if there is none."""
    for train in trains:
        before = times_before(train, time)
        if train[2] is None or before < train[2]:
            return train[0] + before * train[1]
    return None


def time_until(trains, time):
    """Return the last time of some trains that is not behind a time, None if there is none."""
    latest = None
    for train in trains:
        reached = times_before(train, time + 1)
        if reached > 0:
            latest = train[0] + (reached - 1) * train[1]
    return latest


def joined(train, following):
    """Return the one or two trains of the normal form of two trains, the first of which has an end."""
    start, step, count = train
    if count == 1:
        step = following[0] - start
    if start + count * step != following[0]:
        return [train, following]
    if following[1] != step:
        return [(start, step, count + 1)] + part_of(following, 1, following[2])
    if following[2] is None:
        return [(start, step, None)]
    return [(start, step, count + following[2])]


def normal_form(trains):
    """Return the normal form of a list of trains, each of which starts behind the one before."""
    closed = []
    held = []
    for train in trains:
        # Only the last train can still grow: those before it have met a time that does not fit.
        grown = joined(held[0], train) if held else [train]
        closed.extend(grown[:-1])
        held = grown[-1:]
    return closed + [with_plain_step(train) for train in held]


def with_plain_step(train):
    """Return a train with the step 1 if it has a single time, otherwise as it is."""
    start, step, count = train
    if count == 1:
        return (start, 1, 1)
    return (start, step, count)


def counts_ahead(trains):
    """Return for each of some trains how many times the trains before it have."""
    ahead = []
    total = 0
    for train in trains:
        ahead.append(total)
        # Only the last train may be without end, and it is ahead of none.
        total = total + (train[2] or 0)
    return ahead


def total_count(trains):
    """Return how many times some trains have, None if they do not end."""
    if trains and trains[-1][2] is None:
        return None
    return sum([train[2] for train in trains])


def ends_first(one, other):
    """Return whether a train has its last time before or with that of another one."""
    end = last_time(one)
    other_end = last_time(other)
    return end is not None and (other_end is None or end <= other_end)


def meeting(one, other):
    """Return a list with the train of the times that are in both of two trains, empty if there are none."""
    low = max(one[0], other[0])
    high = last_time(one) if ends_first(one, other) else last_time(other)
    base = one[0] + times_before(one, low) * one[1]
    divisor, factor = divisor_and_factor(one[1], other[1])
    quotient, rest = divmod(other[0] - base, divisor)
    if rest != 0:
        return []
    # Both steps lead to the same times again after their least common multiple.
    stride = other[1] // divisor
    start = base + one[1] * (quotient * factor % stride)
    step = one[1] * stride
    if high is None:
        return [(start, step, None)]
    if start > high:
        return []
    return [(start, step, (high - start) // step + 1)]


def meetings(one, other):
    """Return the trains of the times that are in both of two lists of trains, in order."""
    met = []
    left = 0
    right = 0
    while left < len(one) and right < len(other):
        met.extend(meeting(one[left], other[right]))
        if ends_first(one[left], other[right]):
            left += 1
        else:
            right += 1
    return met
