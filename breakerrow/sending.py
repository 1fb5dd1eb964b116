"""One request after the other: what happens to it, and the states of the breakers behind it."""

MOST_REQUESTS = 10000
SERVED = ("served",)
FAILED = ("failed",)


def closed_states(number):
    """Return the states of so many breakers before all requests."""
    return [("closed", 0)] * number


def passes(breaker, state, time):
    """Return whether a breaker passes a request at a time."""
    return state[0] != "open" or time - state[1] >= breaker[1]


def state_behind(breaker, state, time, succeeded):
    """Return the state of a breaker behind a request at a time that it has passed."""
    failures, wait, successes = breaker
    kind, number = state
    if succeeded and kind != "closed":
        # An open breaker that passes a request has become half open, with no success yet.
        reached = number + 1 if kind == "half" else 1
        return ("half", reached) if reached < successes else ("closed", 0)
    if succeeded:
        return ("closed", 0)
    if kind == "closed" and number + 1 < failures:
        return ("closed", number + 1)
    return ("open", time)


def sent(breakers, states, time, up):
    """Return what happens to a request at a time, and the list of the states of the breakers behind it."""
    reached = 0
    while reached < len(breakers) and passes(breakers[reached], states[reached], time):
        reached += 1
    told = SERVED if up else FAILED
    if reached < len(breakers):
        told = ("rejected", reached)
    behind = [state_behind(breaker, state, time, told == SERVED)
              for breaker, state in zip(breakers[:reached], states)]
    return told, behind + states[reached:]
