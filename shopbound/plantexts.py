"""Schedules as texts: rows `STEP BENCH START`, sorted by the steps' names, parted by a semicolon and a blank."""

from shopbound.errors import NoPlan
from shopbound.words import is_name, is_numeral, number_of

PARTING = "; "


def shown_plan(plan):
    """The text of a schedule; without signs where it has no step."""
    rows = []
    for step in sorted(plan):
        bench = plan[step][0]
        start = plan[step][1]
        rows.append(f"{step} {bench} {start}")
    return PARTING.join(rows)


def is_plan_row(words):
    """Whether the words of a row are a step, a bench and a start."""
    return len(words) == 3 and is_name(words[0]) and is_name(words[1]) and is_numeral(words[2])


def read_plan(text):
    """The schedule of a text, or NoPlan."""
    if not isinstance(text, str):
        raise NoPlan("a plan is read from a text alone")
    plan = {}
    if text == "":
        return plan
    step_ahead = ""
    for row in text.split(PARTING):
        words = row.split(" ")
        if not is_plan_row(words):
            raise NoPlan(f"no row of a plan: {row!r}")
        if words[0] <= step_ahead:
            raise NoPlan(f"not behind {step_ahead}: {row!r}")
        plan[words[0]] = (words[1], number_of(words[2]))
        step_ahead = words[0]
    return plan
