"""Leaves: reasons for which no schedule goes with facts."""


def moments_within(start, length, l, r):
    """How many of so many moments from a start on lie from l to below r."""
    return max(0, min(start + length, r) - max(start, l))


def overlap_of(facts, step, l, r):
    """How many moments of a step lie from l to below r at least, wherever it starts; 0 where no bench is open."""
    overlaps = []
    for length in facts.open_lengths(step):
        # from the first on to the last the moments within grow, then shrink: the least lies at an end
        overlaps.append(moments_within(facts.first_of(step), length, l, r))
        overlaps.append(moments_within(facts.last_of(step), length, l, r))
    return min(overlaps, default=0)


def free_moments(shop, bench, l, r):
    """How many moments from l to below r lie in no break of a bench."""
    return r - l - sum([moments_within(begin, end - begin, l, r) for begin, end in shop.breaks_of(bench)])


def shuts_window(facts, step):
    """Whether a step has no possible start."""
    return facts.least_start(step) is None


def shuts_ring(facts, names):
    """Whether each step is ahead of the next one, and the last one of the first."""
    return all([facts.is_ahead(names[place - 1], names[place]) for place in range(len(names))])


def is_bound_to(facts, step, benches):
    """Whether a bench is open to a step, and none but these."""
    ready = facts.open_to(step)
    return len(ready) > 0 and all([bench in benches for bench in ready])


def shuts_stretch(facts, benches, l, r):
    """Whether the steps that are bound to these benches have more moments there than are free."""
    shop = facts.shop()
    bound = [step for step in shop.step_names() if is_bound_to(facts, step, benches)]
    free = sum([free_moments(shop, bench, l, r) for bench in benches])
    return sum([overlap_of(facts, step, l, r) for step in bound]) > free


def row_called(rows, name):
    """The row of a shop that bears a name."""
    return [row for row in rows if row[0] == name][0]


def shuts_together(facts, job, l, r):
    """Whether the steps of a job have more moments from l to below r than there are."""
    steps = row_called(facts.shop().job_rows(), job)[4]
    return sum([overlap_of(facts, step, l, r) for step in steps]) > r - l


def with_bench(facts, amounts):
    """The takes or puts of steps to which a bench is open."""
    return [(step, amount) for step, amount in amounts if facts.least_of(step) is not None]


def greatest_level(facts, stock, t):
    """The level of a stock at t is at most this: only sure takes, all puts that can be."""
    takes = with_bench(facts, stock[3])
    puts = with_bench(facts, stock[4])
    taken = sum([amount for step, amount in takes if facts.last_of(step) <= t])
    put = sum([amount for step, amount in puts if facts.first_of(step) + facts.least_of(step) <= t])
    return stock[1] - taken + put


def least_level(facts, stock, t):
    """The level of a stock at t is at least this: all takes that can be, only sure puts."""
    takes = with_bench(facts, stock[3])
    puts = with_bench(facts, stock[4])
    taken = sum([amount for step, amount in takes if facts.first_of(step) <= t])
    put = sum([amount for step, amount in puts if facts.last_of(step) + facts.greatest_of(step) <= t])
    return stock[1] - taken + put


def shuts_stock(facts, name, t, word):
    """Whether a stock is surely below 0, or surely above its room, at t."""
    stock = row_called(facts.shop().stock_rows(), name)
    if word == "less":
        return greatest_level(facts, stock, t) < 0
    return least_level(facts, stock, t) > stock[2]


def shuts_moved(facts):
    """Whether more steps of the kept plan than the most are noted, or cannot stay at their places."""
    if not facts.has_kept():
        return False
    noted = facts.noted()
    moved = [step for step in facts.kept_names() if step in noted or not facts.may_stay(step)]
    return len(moved) > facts.most_moved()


def shuts_leaf(facts, leaf):
    """Whether a leaf shuts facts: no schedule goes with them."""
    if leaf[0] == "window":
        return shuts_window(facts, leaf[1])
    if leaf[0] == "ring":
        return shuts_ring(facts, leaf[1])
    if leaf[0] == "stretch":
        return shuts_stretch(facts, leaf[1], leaf[2], leaf[3])
    if leaf[0] == "together":
        return shuts_together(facts, leaf[1], leaf[2], leaf[3])
    if leaf[0] == "stock":
        return shuts_stock(facts, leaf[1], leaf[2], leaf[3])
    return shuts_moved(facts)
