"""Rows low, high and fit: what every schedule that goes with facts keeps, too."""


def is_asked_rightly(facts, one, other):
    """Whether one is ahead of other, and a bench is open to one."""
    return facts.is_ahead(one, other) and facts.least_of(one) is not None


def behind_low(facts, one, other):
    """The facts with other's first behind one's soonest end, or None."""
    if not is_asked_rightly(facts, one, other):
        return None
    soonest = facts.first_of(one) + facts.least_of(one) + facts.gap_of(one, other)
    new = facts.twin()
    new.set_window(other, max(facts.first_of(other), soonest), facts.last_of(other))
    return new


def behind_high(facts, one, other):
    """The facts with one's last ahead of other's latest start, or None."""
    if not is_asked_rightly(facts, one, other):
        return None
    latest = facts.last_of(other) - facts.least_of(one) - facts.gap_of(one, other)
    new = facts.twin()
    new.set_window(one, facts.first_of(one), min(facts.last_of(one), latest))
    return new


def behind_fit(facts, step):
    """The facts with a step's first and last at its least and greatest possible starts, or None."""
    least = facts.least_start(step)
    if least is None:
        return None
    new = facts.twin()
    new.set_window(step, least, facts.greatest_start(step))
    return new


def behind_row(facts, row):
    """The new facts behind a row, or None where what it wants is not so."""
    if row[0] == "low":
        return behind_low(facts, row[1], row[2])
    if row[0] == "high":
        return behind_high(facts, row[1], row[2])
    return behind_fit(facts, row[1])
