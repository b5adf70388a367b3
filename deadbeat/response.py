"""Response times: how long it can take from a release to the end of its job."""


def demand(window, own, blocked, above, releases, release_cost, slack):
    """The greatest time that is needed in a window before a job can have ended in it."""
    total = own + blocked
    for every, cost in above:
        total += cost * _times_in(window, every)
    for every in releases:
        total += release_cost * _times_in(window + slack, every)
    return total


def _times_in(window, every):
    """The least integer that is not less than a window divided by a number."""
    return -(-window // every)


def response_time(limit, own, blocked, above, releases, release_cost, slack):
    """The least window that meets its demand, or None if it is greater than the limit."""
    if _needs_all(above + [(every, release_cost) for every in releases]):
        # The window would grow up to the limit, perhaps by 1 in each step.
        return None
    window = 1
    while window <= limit:
        needed = demand(window, own, blocked, above, releases, release_cost, slack)
        if needed <= window:
            return window
        window = needed
    return None


def _needs_all(pairs):
    """Whether costs that come at some distances take all the time, as pairs of a distance and a cost."""
    whole = 1
    for every, _ in pairs:
        whole = whole * every
    return sum([cost * (whole // every) for every, cost in pairs]) >= whole
