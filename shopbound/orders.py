"""What is known of the order of a shop's steps ahead of any schedule."""


def pairs_of(things):
    """All pairs of a list, each thing with each one behind it, in the list's order."""
    pairs = []
    for place, one in enumerate(things):
        pairs.extend([(one, other) for other in things[place + 1:]])
    return pairs


def are_of_one_job(shop, one, other):
    """Whether two steps are in the same job."""
    job = shop.job_of(one)
    return job is not None and other in job[4]


def share_their_one_bench(shop, one, other):
    """Whether two steps have one way each, both on one bench."""
    ways = shop.ways_of(one)
    others = shop.ways_of(other)
    return len(ways) == 1 and len(others) == 1 and ways[0][0] == others[0][0]


def sure_pairs(shop):
    """The pairs of steps that are at work apart in every schedule, as the steps stand."""
    pairs = []
    for one, other in pairs_of(shop.step_names()):
        if are_of_one_job(shop, one, other) or share_their_one_bench(shop, one, other):
            pairs.append((one, other))
    return pairs


def greatest_gaps(shop):
    """A dict from each pair (one, other) of a link or an ordered job to its greatest gap."""
    gaps = {}
    for job in shop.job_rows():
        if job[3]:
            for pair in pairs_of(job[4]):
                gaps[pair] = 0
    # a link's gap is never below that of an ordered job, and no two links are of one pair
    for one, other, gap in shop.link_rows():
        gaps[(one, other)] = gap
    return gaps


def known_orders(shop):
    """Tuples (one, other, gap): other starts at least the gap behind one's end, as the steps stand."""
    names = shop.step_names()
    gaps = greatest_gaps(shop)
    orders = []
    for one in names:
        orders.extend([(one, other, gaps[(one, other)]) for other in names if (one, other) in gaps])
    return orders
