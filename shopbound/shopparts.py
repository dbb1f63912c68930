"""What the parts of a shop must be, each looked at beside those ahead of it.

Every thing is asked for its kind before it is compared or looked into: a part may be anything at all.
"""

from shopbound.forms import are_unlike, is_list, is_one_of, is_tuple, is_within
from shopbound.words import is_name

MOST_HORIZON = 1000000
MOST_BENCHES = 8
MOST_BREAKS = 10
MOST_STEPS = 40
MOST_WAYS = 4
MOST_JOBS = 40
MOST_SETUPS = 100
MOST_LINKS = 100
MOST_STOCKS = 6
MOST_AMOUNT = 1000000


def is_break(row, horizon):
    """Whether a row is a break (begin, end)."""
    if not is_tuple(row, 2) or not is_within(row[0], 0, horizon) or not is_within(row[1], 0, horizon):
        return False
    return row[0] < row[1]


def are_breaks(breaks, horizon):
    """Whether these are breaks, each beginning behind the end of the one ahead of it."""
    if not is_list(breaks, 0, MOST_BREAKS) or not all([is_break(row, horizon) for row in breaks]):
        return False
    return all([breaks[place - 1][1] < breaks[place][0] for place in range(1, len(breaks))])


def is_bench(row, horizon):
    """Whether a row is a bench (name, breaks)."""
    return is_tuple(row, 2) and is_name(row[0]) and are_breaks(row[1], horizon)


def are_benches(benches, horizon):
    """Whether these are the benches of a shop."""
    if not is_list(benches, 1, MOST_BENCHES) or not all([is_bench(row, horizon) for row in benches]):
        return False
    return are_unlike([row[0] for row in benches])


def is_way(row, bench_names, horizon):
    """Whether a row is a way (bench, length)."""
    return is_tuple(row, 2) and is_one_of(row[0], bench_names) and is_within(row[1], 1, horizon)


def are_ways(ways, bench_names, horizon):
    """Whether these are the ways of a step."""
    if not is_list(ways, 1, MOST_WAYS) or not all([is_way(row, bench_names, horizon) for row in ways]):
        return False
    return are_unlike([row[0] for row in ways])


def is_step(row, bench_names, horizon):
    """Whether a row is a step (name, kind, ways)."""
    if not is_tuple(row, 3) or not is_name(row[0]) or not is_name(row[1]):
        return False
    return are_ways(row[2], bench_names, horizon)


def are_steps(steps, bench_names, horizon):
    """Whether these are the steps of a shop."""
    if not is_list(steps, 1, MOST_STEPS) or not all([is_step(row, bench_names, horizon) for row in steps]):
        return False
    return are_unlike([row[0] for row in steps])


def is_job(row, step_names, horizon):
    """Whether a row is a job (name, early, due, ordered, steps)."""
    if not is_tuple(row, 5) or not is_name(row[0]) or not isinstance(row[3], bool):
        return False
    if not is_within(row[1], 0, horizon) or not is_within(row[2], 0, horizon):
        return False
    # more names than there are steps cannot be unlike
    return is_list(row[4], 1, len(step_names)) and all([is_one_of(name, step_names) for name in row[4]])


def are_jobs(jobs, step_names, horizon):
    """Whether these are the jobs of a shop, with no step in two of them, nor twice in one."""
    if not is_list(jobs, 0, MOST_JOBS) or not all([is_job(row, step_names, horizon) for row in jobs]):
        return False
    members = []
    for row in jobs:
        members.extend(row[4])
    return are_unlike([row[0] for row in jobs]) and are_unlike(members)


def is_setup(row, bench_names, horizon):
    """Whether a row is a setup (bench, first, second, moments); its kinds may be those of no step."""
    if not is_tuple(row, 4) or not is_one_of(row[0], bench_names):
        return False
    return is_name(row[1]) and is_name(row[2]) and is_within(row[3], 1, horizon)


def are_setups(setups, bench_names, horizon):
    """Whether these are the setups of a shop."""
    if not is_list(setups, 0, MOST_SETUPS) or not all([is_setup(row, bench_names, horizon) for row in setups]):
        return False
    return are_unlike([row[:3] for row in setups])


def is_link(row, step_names, horizon):
    """Whether a row is a link (one, other, gap) of two unlike steps."""
    if not is_tuple(row, 3) or not is_one_of(row[0], step_names) or not is_one_of(row[1], step_names):
        return False
    return row[0] != row[1] and is_within(row[2], 0, horizon)


def are_links(links, step_names, horizon):
    """Whether these are the links of a shop; they may go round in a ring."""
    if not is_list(links, 0, MOST_LINKS) or not all([is_link(row, step_names, horizon) for row in links]):
        return False
    return are_unlike([row[:2] for row in links])


def is_amount(row, step_names):
    """Whether a row is a take or a put (step, amount)."""
    return is_tuple(row, 2) and is_one_of(row[0], step_names) and is_within(row[1], 1, MOST_AMOUNT)


def are_amounts(rows, step_names):
    """Whether these are the takes, or the puts, of a stock."""
    # more rows than there are steps cannot have unlike steps
    if not is_list(rows, 0, len(step_names)) or not all([is_amount(row, step_names) for row in rows]):
        return False
    return are_unlike([row[0] for row in rows])


def is_stock(row, step_names):
    """Whether a row is a stock (name, first, room, takes, puts)."""
    if not is_tuple(row, 5) or not is_name(row[0]):
        return False
    if not is_within(row[2], 0, MOST_AMOUNT) or not is_within(row[1], 0, row[2]):
        return False
    return are_amounts(row[3], step_names) and are_amounts(row[4], step_names)


def are_stocks(stocks, step_names):
    """Whether these are the stocks of a shop."""
    if not is_list(stocks, 0, MOST_STOCKS) or not all([is_stock(row, step_names) for row in stocks]):
        return False
    return are_unlike([row[0] for row in stocks])


def first_bad_part(benches, steps, jobs, setups, links, stocks, horizon):
    """The first part by which this makes no shop, or None."""
    if not is_within(horizon, 1, MOST_HORIZON):
        return "horizon"
    if not are_benches(benches, horizon):
        return "benches"
    bench_names = [row[0] for row in benches]
    if not are_steps(steps, bench_names, horizon):
        return "steps"
    step_names = [row[0] for row in steps]
    if not are_jobs(jobs, step_names, horizon):
        return "jobs"
    if not are_setups(setups, bench_names, horizon):
        return "setups"
    if not are_links(links, step_names, horizon):
        return "links"
    if not are_stocks(stocks, step_names):
        return "stocks"
    return None
