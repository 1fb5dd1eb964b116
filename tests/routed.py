"""Requests of routes that are sent one by one, by the rules of point 6, through breakers that are objects."""

from tests.played import is_up


class OneBreaker:
    """A breaker that is told what happens to it."""

    def __init__(self, breaker):
        self.failures, self.wait, self.successes = breaker
        self.kind = "closed"
        self.number = 0

    def lets_pass(self, time):
        if self.kind == "open" and time - self.number >= self.wait:
            self.kind, self.number = "half", 0
        return self.kind != "open"

    def succeed(self):
        if self.kind == "half":
            self.number += 1
        if self.kind == "closed" or self.number >= self.successes:
            self.kind, self.number = "closed", 0

    def fail(self, time):
        """Take a failure; return whether the breaker opens."""
        if self.kind == "closed":
            self.number += 1
        if self.kind == "half" or self.number >= self.failures:
            self.kind, self.number = "open", time
        return self.kind == "open"


class Routed:
    """What happens to the first so many requests: successes and failures for each service, and common openings."""

    def __init__(self, common, services, pattern, step, count, works=None):
        """Send the requests; `works`, if passed, tells for each service whether it succeeds, whatever its outages."""
        common = [OneBreaker(breaker) for breaker in common]
        own = [[OneBreaker(breaker) for breaker in breakers] for breakers, outages in services]
        self.served = [(0, 0) for service in services]
        self.openings = []
        for number in range(count):
            time = number * step
            at = pattern[number % len(pattern)]
            passed = []
            success = True
            for breaker in common + own[at]:
                success = breaker.lets_pass(time)
                if not success:
                    break
                passed.append(breaker)
            if success:
                success = works[at] if works else is_up(services[at][1], time)
            for breaker in passed:
                if success:
                    breaker.succeed()
                elif breaker.fail(time) and breaker in common:
                    self.openings.append((number, common.index(breaker)))
            good, bad = self.served[at]
            self.served[at] = (good + success, bad + (not success))
