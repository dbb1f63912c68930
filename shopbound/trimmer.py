"""What a tree hangs on, so that rows and nots on which nothing hangs are left out of it.

A need is a tuple ("first", step), ("last", step) or ("ahead", one, other): what rows and nots may change in facts. With
some of these left out, facts are only wider; where the needs of a tree are as narrow as before, it shuts them still.
Open benches and notes are no needs: the choices by which they come to be are never left out.
"""

from shopbound.leaves import is_bound_to, overlap_of, row_called


def needs_of_window(step):
    """The needs of a step's first and last."""
    return [("first", step), ("last", step)]


def needs_of_windows(steps):
    """The needs of the firsts and lasts of steps."""
    needs = []
    for step in steps:
        needs.extend(needs_of_window(step))
    return needs


def needs_of_stretch(facts, steps, l, r):
    """The needs of a leaf stretch or together that sums the overlaps of these steps."""
    return needs_of_windows([step for step in steps if overlap_of(facts, step, l, r) > 0])


def needs_of_stock(facts, name, t, word):
    """The needs of a leaf stock."""
    stock = row_called(facts.shop().stock_rows(), name)
    takes = [row[0] for row in stock[3]]
    puts = [row[0] for row in stock[4]]
    if word == "less":
        needs = [("last", step) for step in takes if facts.last_of(step) <= t]
        return needs + [("first", step) for step in puts if facts.first_of(step) + facts.least_of(step) > t]
    needs = [("first", step) for step in takes if facts.first_of(step) > t]
    return needs + [("last", step) for step in puts if facts.last_of(step) + facts.greatest_of(step) <= t]


def needs_of_leaf(facts, leaf):
    """The needs of a leaf that shuts facts."""
    if leaf[0] == "window":
        return needs_of_window(leaf[1])
    if leaf[0] == "ring":
        names = leaf[1]
        return [("ahead", names[place - 1], names[place]) for place in range(len(names))]
    if leaf[0] == "stretch":
        bound = [step for step in facts.shop().step_names() if is_bound_to(facts, step, leaf[1])]
        return needs_of_stretch(facts, bound, leaf[2], leaf[3])
    if leaf[0] == "together":
        return needs_of_stretch(facts, row_called(facts.shop().job_rows(), leaf[1])[4], leaf[2], leaf[3])
    if leaf[0] == "stock":
        return needs_of_stock(facts, leaf[1], leaf[2], leaf[3])
    return needs_of_windows([step for step in facts.kept_names() if not facts.may_stay(step)])


def given_by(choice, side):
    """The need that a side of a choice meets by itself, or None."""
    if choice[0] == "order":
        return ("ahead", choice[1 + side], choice[2 - side])
    if choice[0] == "start":
        return ("first" if side == 1 else "last", choice[1])
    return None


def needs_ahead(needs, choice, side):
    """The needs ahead of a choice, of those behind one of its sides."""
    given = given_by(choice, side)
    return [need for need in needs if need != given]


class Entry:
    """A row or not in a tree on its way: what it gives and what it needs, and how much it counts in the tree."""

    def __init__(self, row, needs, parts):
        self.row = row
        self.needs = needs
        self.parts = parts

    def gives(self):
        """The needs that it meets; None where it is never left out."""
        row = self.row
        if row[0] == "low":
            return [("first", row[2])]
        if row[0] == "high":
            return [("last", row[1])]
        if row[0] == "fit":
            return needs_of_window(row[1])
        given = given_by(row[1], 1 - row[2])
        return None if given is None else [given]


def entry_of_push(row):
    """The entry of a row or not that the pusher tells."""
    if row[0] == "low":
        return Entry(row, [("first", row[1]), ("ahead", row[1], row[2])], 1)
    if row[0] == "high":
        return Entry(row, [("last", row[2]), ("ahead", row[1], row[2])], 1)
    if row[0] == "fit":
        return Entry(row, [], 1)
    # its tree is a row low and a leaf window: what shuts is that one's first lies too late for other's last
    choice = row[1]
    return Entry(row, [("first", choice[1]), ("last", choice[2])], 3)


def trimmed(entries, needs):
    """Of entries those on which needs hang that come behind them, and the needs ahead of all of these."""
    kept = []
    wanted = dict([(need, True) for need in needs])
    for entry in reversed(entries):
        gives = entry.gives()
        if gives is None or any([need in wanted for need in gives]):
            kept.append(entry)
            if gives is not None and entry.row[0] != "fit":
                wanted.pop(gives[0])
            for need in entry.needs:
                wanted[need] = True
    kept.reverse()
    return (kept, list(wanted))
