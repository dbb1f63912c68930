"""Choices start, on, order and keep: each parts the schedules that go with facts, and leaves none out."""


def side_of_start(facts, step, t, side):
    """The facts where a step starts ahead of t, or from t on."""
    new = facts.twin()
    if side == 0:
        new.set_window(step, facts.first_of(step), min(facts.last_of(step), t - 1))
    else:
        new.set_window(step, max(facts.first_of(step), t), facts.last_of(step))
    return new


def side_of_on(facts, step, bench, side):
    """The facts where a step is on a bench, or on another one; None where the bench is not open to it."""
    benches = facts.open_to(step)
    if bench not in benches:
        return None
    new = facts.twin()
    if side == 0:
        new.set_open(step, [bench])
    else:
        new.set_open(step, [ready for ready in benches if ready != bench])
    least = new.least_of(step)
    if least is not None:
        latest = facts.end_mark(step) - least
        new.set_window(step, facts.first_of(step), min(facts.last_of(step), latest))
    return new


def side_of_order(facts, one, other, side):
    """The facts where one is ahead of other, or other of one; None where they do not meet."""
    if not facts.do_meet(one, other):
        return None
    new = facts.twin()
    if side == 0:
        new.put_order(one, other)
    else:
        new.put_order(other, one)
    return new


def side_of_keep(facts, step, side):
    """The facts where a step is at its kept place, or is not; None where it has none, or is noted already."""
    place = facts.kept_place(step)
    if place is None or step in facts.noted():
        return None
    new = facts.twin()
    if side == 0:
        new.set_open(step, [place[0]] if facts.may_stay(step) else [])
        new.set_window(step, place[1], place[1])
    else:
        new.put_note(step)
    return new


def side_of(facts, choice, side):
    """The new facts of a side, 0 or 1, of a choice, or None where what the choice wants is not so."""
    if choice[0] == "start":
        return side_of_start(facts, choice[1], choice[2], side)
    if choice[0] == "on":
        return side_of_on(facts, choice[1], choice[2], side)
    if choice[0] == "order":
        return side_of_order(facts, choice[1], choice[2], side)
    return side_of_keep(facts, choice[1], side)
