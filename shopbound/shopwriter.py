"""A shop written as a text."""


def shown_bench(name, breaks):
    """The row of a bench."""
    return " ".join(["bench", name] + [f"{begin}-{end}" for begin, end in breaks])


def shown_step(name, kind, ways):
    """The row of a step."""
    return " ".join(["step", name, kind] + [f"{bench}/{length}" for bench, length in ways])


def shown_job(name, early, due, ordered, steps):
    """The row of a job."""
    word = "in" if ordered else "of"
    return " ".join(["job", name, str(early), str(due), word] + steps)


def shown_stock(name, first, room, takes, puts):
    """The row of a stock."""
    words = ["stock", name, str(first), str(room)]
    words.extend([f"{step}-{amount}" for step, amount in takes])
    words.extend([f"{step}+{amount}" for step, amount in puts])
    return " ".join(words)


def shown_shop(shop):
    """The text of a shop: its horizon, then each kind of rows in the shop's order."""
    horizon = shop.last_moment()
    rows = [f"horizon {horizon}"]
    rows.extend([shown_bench(name, breaks) for name, breaks in shop.bench_rows()])
    rows.extend([shown_step(name, kind, ways) for name, kind, ways in shop.step_rows()])
    rows.extend([shown_job(name, early, due, ordered, steps) for name, early, due, ordered, steps in shop.job_rows()])
    rows.extend([f"setup {bench} {first} {second} {moments}" for bench, first, second, moments in shop.setup_rows()])
    rows.extend([f"link {one} {other} {gap}" for one, other, gap in shop.link_rows()])
    rows.extend([shown_stock(name, first, room, takes, puts) for name, first, room, takes, puts in shop.stock_rows()])
    return "\n".join(rows)
