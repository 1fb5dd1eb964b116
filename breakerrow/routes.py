"""Routes: requests that go through common breakers and then to one of several services with breakers of its own."""

from breakerrow.errors import InvalidBound, InvalidOutages, InvalidRow
from breakerrow.outages import check_outages
from breakerrow.rows import check_breakers, check_step
from breakerrow.sending import MOST_REQUESTS, SERVED, closed_states, sent
from breakerrow.wholes import is_within

MOST_SERVICES = 10
MOST_PLACES = 20


class Routes:
    """Common breakers, services behind breakers of their own, and the order in which requests go to the services."""

    def __init__(self, common, services, pattern, step):
        check_breakers(common, "common")
        check_services(services)
        check_pattern(pattern, len(services))
        check_step(step)
        self.common = tuple(common)
        self.services = tuple([(tuple(breakers), tuple(outages)) for breakers, outages in services])
        self.pattern = tuple(pattern)
        self.step = step

    def parts(self):
        """Return the common breakers, the services, the pattern and the step."""
        services = [(list(breakers), list(outages)) for breakers, outages in self.services]
        return (list(self.common), services, list(self.pattern), self.step)

    def __eq__(self, other):
        return (isinstance(other, Routes) and self.common == other.common and self.services == other.services
                and self.pattern == other.pattern and self.step == other.step)


def is_service(value):
    """Return whether a value is a service: its breakers and its outages."""
    if not isinstance(value, tuple) or len(value) != 2:
        return False
    breakers, outages = value
    try:
        check_breakers(breakers, "services")
        check_outages(outages)
    except (InvalidRow, InvalidOutages):
        return False
    return True


def check_services(services):
    """Raise an error if a value is not a list of services."""
    if not isinstance(services, list) or not 1 <= len(services) <= MOST_SERVICES:
        raise InvalidRow("services", -1)
    for at, service in enumerate(services):
        if not is_service(service):
            raise InvalidRow("services", at)


def check_pattern(pattern, number):
    """Raise an error if a value is not a list of indices of so many services."""
    if not isinstance(pattern, list) or not 1 <= len(pattern) <= MOST_PLACES:
        raise InvalidRow("pattern", -1)
    for at, service in enumerate(pattern):
        if not is_within(service, 0, number - 1):
            raise InvalidRow("pattern", at)


def is_up(outages, time):
    """Return whether a service with some outages succeeds at a time."""
    for begin, end in outages:
        if begin <= time < end:
            return False
    return True


def sent_requests(routes, count):
    """Return for each of the first so many requests its service, whether it succeeds, and which common breakers open.

    The requests are sent one by one.
    """
    if not is_within(count, 0, MOST_REQUESTS):
        raise InvalidBound("count")
    border = len(routes.common)
    common = closed_states(border)
    own = [closed_states(len(breakers)) for breakers, outages in routes.services]
    found = []
    for number in range(count):
        service = routes.pattern[number % len(routes.pattern)]
        breakers, outages = routes.services[service]
        time = number * routes.step
        told, states = sent(routes.common + breakers, common + own[service], time, is_up(outages, time))
        common, own[service] = states[:border], states[border:]
        opened = [breaker for breaker, state in enumerate(common) if state == ("open", time)]
        found.append((service, told == SERVED, opened))
    return found


def served(routes, count):
    """Return for each service how many of the first so many requests to it have succeeded, and how many not."""
    requests = sent_requests(routes, count)
    totals = []
    for place in range(len(routes.services)):
        succeeded = [success for service, success, opened in requests if service == place]
        totals.append((succeeded.count(True), succeeded.count(False)))
    return totals


def common_openings(routes, count):
    """Return (number of the request, breaker) for each time that a common breaker opens at the first requests."""
    requests = sent_requests(routes, count)
    return [(number, breaker) for number, (service, success, opened) in enumerate(requests) for breaker in opened]


def check_down(routes, down):
    """Raise an error if a value is not an ascending list of indices of services."""
    if not isinstance(down, list):
        raise InvalidBound("down")
    least = 0
    for service in down:
        if not is_within(service, least, len(routes.services) - 1):
            raise InvalidBound("down")
        least = service + 1


def failing_runs(routes, down):
    """Return how many requests in a row, up to each one of two rounds of the pattern, belong to services in a list.

    Two rounds show each run that goes over the end of the pattern.
    """
    runs = []
    length = 0
    for service in routes.pattern + routes.pattern:
        length = length + 1 if service in down else 0
        runs.append(length)
    return runs


def longest_failure(routes, down):
    """Return the greatest number of requests in a row that belong to services that are down, None if all do."""
    check_down(routes, down)
    longest = max(failing_runs(routes, down))
    if longest > len(routes.pattern):
        return None
    return longest


def first_opening(routes, down):
    """Return the first request at which common breakers open, and the list of these, None if none ever opens."""
    longest = longest_failure(routes, down)
    if routes.common == ():
        return None
    least = min([breaker[0] for breaker in routes.common])
    opened = [place for place, breaker in enumerate(routes.common) if breaker[0] == least]
    if longest is None:
        return (least - 1, opened)
    if least > longest:
        return None
    return (failing_runs(routes, down).index(least), opened)
