"""A shop's text read.

Rows are first looked at by their form alone, each by itself. Each reader takes all words of a row, the first one too,
and tells the row's part of a shop, or None where the row's form is not the told one.
"""

from shopbound.errors import NoRow
from shopbound.shops import Shop
from shopbound.words import is_name, is_numeral

MOST_FIGURES = 7


def is_number(word):
    """Whether a word writes a number: one to seven figures, no nought ahead but in 0 itself."""
    return len(word) <= MOST_FIGURES and is_numeral(word)


def are_names(words):
    """Whether each of the words is a name."""
    return all([is_name(word) for word in words])


def are_numbers(words):
    """Whether each of the words writes a number."""
    return all([is_number(word) for word in words])


def read_break(word):
    """The tuple of a word BEGIN-END, or None."""
    halves = word.split("-")
    if len(halves) != 2 or not are_numbers(halves):
        return None
    return (int(halves[0]), int(halves[1]))


def read_named_number(word, sign):
    """The tuple of a word with a name, a sign and a number, or None."""
    halves = word.split(sign)
    if len(halves) != 2 or not is_name(halves[0]) or not is_number(halves[1]):
        return None
    return (halves[0], int(halves[1]))


def read_horizon(words):
    """The number of a row `horizon N`."""
    if len(words) != 2 or not is_number(words[1]):
        return None
    return int(words[1])


def read_bench(words):
    """The tuple of a row `bench NAME BEGIN-END ..`."""
    breaks = [read_break(word) for word in words[2:]]
    if len(words) < 2 or not is_name(words[1]) or None in breaks:
        return None
    return (words[1], breaks)


def read_step(words):
    """The tuple of a row `step NAME KIND BENCH/LENGTH ..`."""
    ways = [read_named_number(word, "/") for word in words[3:]]
    if len(words) < 3 or not are_names(words[1:3]) or None in ways:
        return None
    return (words[1], words[2], ways)


def read_job(words):
    """The tuple of a row `job NAME EARLY DUE in STEP ..`, or with `of`."""
    if len(words) < 5 or not is_name(words[1]) or not are_numbers(words[2:4]):
        return None
    if words[4] not in ("in", "of") or not are_names(words[5:]):
        return None
    return (words[1], int(words[2]), int(words[3]), words[4] == "in", words[5:])


def read_setup(words):
    """The tuple of a row `setup BENCH FIRST SECOND N`."""
    if len(words) != 5 or not are_names(words[1:4]) or not is_number(words[4]):
        return None
    return (words[1], words[2], words[3], int(words[4]))


def read_link(words):
    """The tuple of a row `link ONE OTHER GAP`."""
    if len(words) != 4 or not are_names(words[1:3]) or not is_number(words[3]):
        return None
    return (words[1], words[2], int(words[3]))


def read_stock(words):
    """The tuple of a row `stock NAME FIRST ROOM STEP-AMOUNT .. STEP+AMOUNT ..`."""
    if len(words) < 4 or not is_name(words[1]) or not are_numbers(words[2:4]):
        return None
    place = 4
    while place < len(words) and "-" in words[place]:
        place = place + 1
    takes = [read_named_number(word, "-") for word in words[4:place]]
    # a take behind a put is read as a put, and so is none
    puts = [read_named_number(word, "+") for word in words[place:]]
    if None in takes or None in puts:
        return None
    return (words[1], int(words[2]), int(words[3]), takes, puts)


def read_row(words):
    """What a row's words tell, or None where they have not the form of any row."""
    if words[0] == "horizon":
        return read_horizon(words)
    if words[0] == "bench":
        return read_bench(words)
    if words[0] == "step":
        return read_step(words)
    if words[0] == "job":
        return read_job(words)
    if words[0] == "setup":
        return read_setup(words)
    if words[0] == "link":
        return read_link(words)
    if words[0] == "stock":
        return read_stock(words)
    return None


def read_shop(text):
    """The shop of a text; NoRow where a row is none by its form, then NoShop."""
    if not isinstance(text, str):
        raise NoRow(0)
    rows = text.split("\n")
    parts = {"horizon": [], "bench": [], "step": [], "job": [], "setup": [], "link": [], "stock": []}
    for number, row in enumerate(rows):
        words = row.split(" ")
        part = read_row(words)
        if part is None or (words[0] == "horizon" and len(parts["horizon"]) > 0):
            raise NoRow(number)
        parts[words[0]].append(part)
    if len(parts["horizon"]) == 0:
        raise NoRow(len(rows))
    return Shop(
        parts["bench"],
        parts["step"],
        parts["job"],
        parts["setup"],
        parts["link"],
        parts["stock"],
        parts["horizon"][0],
    )
