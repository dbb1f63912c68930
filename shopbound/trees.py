"""Trees looked at by their form, for the names of a shop, ahead of all walking."""

from shopbound.errors import NoTree
from shopbound.forms import are_unlike, is_one_of, is_tuple, is_within
from shopbound.words import is_whole

MOST_COUNTED = 3000
MOST_WITHIN = 40


class TreeNames:
    """The names that a tree of a shop may speak of, and the shop's horizon."""

    def __init__(self, shop):
        self.steps = shop.step_names()
        self.benches = shop.bench_names()
        self.jobs = [row[0] for row in shop.job_rows()]
        self.stocks = [row[0] for row in shop.stock_rows()]
        self.horizon = shop.last_moment()


def word_of(thing):
    """The text that a tuple begins with; one without signs where there is none."""
    if isinstance(thing, tuple) and len(thing) > 0 and isinstance(thing[0], str):
        return thing[0]
    return ""


def are_some_of(things, names):
    """Whether a thing is a list of one or more of these names."""
    return isinstance(things, list) and len(things) > 0 and all([is_one_of(name, names) for name in things])


def are_ends(l, r, horizon):
    """Whether two things are moments, l less than r."""
    return is_within(l, 0, horizon) and is_within(r, 0, horizon) and l < r


def is_row(names, thing):
    """Whether a thing is a row low, high or fit."""
    word = word_of(thing)
    if word in ("low", "high"):
        return is_tuple(thing, 3) and is_one_of(thing[1], names.steps) and is_one_of(thing[2], names.steps)
    return word == "fit" and is_tuple(thing, 2) and is_one_of(thing[1], names.steps)


def is_choice(names, thing):
    """Whether a thing is a choice."""
    word = word_of(thing)
    if word == "keep":
        return is_tuple(thing, 2) and is_one_of(thing[1], names.steps)
    if not is_tuple(thing, 3) or not is_one_of(thing[1], names.steps):
        return False
    if word == "start":
        return is_whole(thing[2])
    if word == "on":
        return is_one_of(thing[2], names.benches)
    return word == "order" and is_one_of(thing[2], names.steps)


def is_stretch(names, benches, l, r):
    """Whether these are the parts of a leaf stretch."""
    return are_some_of(benches, names.benches) and are_unlike(benches) and are_ends(l, r, names.horizon)


def is_stock_leaf(names, stock, t, word):
    """Whether these are the parts of a leaf stock."""
    if not is_one_of(stock, names.stocks) or not is_within(t, 0, names.horizon):
        return False
    return isinstance(word, str) and word in ("less", "more")


def is_leaf(names, thing):
    """Whether a thing is a leaf."""
    word = word_of(thing)
    if word == "moved":
        return is_tuple(thing, 1)
    if word == "window":
        return is_tuple(thing, 2) and is_one_of(thing[1], names.steps)
    if word == "ring":
        return is_tuple(thing, 2) and are_some_of(thing[1], names.steps)
    if not is_tuple(thing, 4):
        return False
    if word == "stretch":
        return is_stretch(names, thing[1], thing[2], thing[3])
    if word == "together":
        return is_one_of(thing[1], names.jobs) and are_ends(thing[2], thing[3], names.horizon)
    return word == "stock" and is_stock_leaf(names, thing[1], thing[2], thing[3])


def is_not(names, thing):
    """Whether a thing is a not, but for its tree."""
    return word_of(thing) == "not" and is_tuple(thing, 4) and is_choice(names, thing[1]) and is_within(thing[2], 0, 1)


def is_both(names, thing):
    """Whether a thing is a both, but for its trees."""
    return word_of(thing) == "both" and is_tuple(thing, 4) and is_choice(names, thing[1])


def trees_in(names, tree):
    """What stands right within a tree in the places of trees, or NoTree where anything else is no part of one."""
    inner = []
    for row in tree[0]:
        if is_not(names, row):
            inner.append(row[3])
        elif not is_row(names, row):
            raise NoTree("neither a row nor a not among the rows")
    end = tree[1]
    if is_both(names, end):
        inner.extend([end[2], end[3]])
    elif not is_leaf(names, end):
        raise NoTree("neither a leaf nor a both at the end")
    return inner


def look_at_tree(shop, tree):
    """NoTree for what is no tree for a shop; else None."""
    names = TreeNames(shop)
    many = 0
    # one depth behind the other, so that a tree that stands within itself is refused as well
    level = [tree]
    depth = 1
    while len(level) > 0:
        if depth > MOST_WITHIN:
            raise NoTree("too many trees within one another")
        inner = []
        for thing in level:
            if not is_tuple(thing, 2) or not isinstance(thing[0], list):
                raise NoTree("a tree is a tuple of a list of rows and an end")
            many = many + len(thing[0]) + 1
            if many > MOST_COUNTED:
                raise NoTree("too many rows, nots, boths and leaves")
            inner.extend(trees_in(names, thing))
        level = inner
        depth = depth + 1
