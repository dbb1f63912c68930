"""The checker: it walks a tree and finds nothing by itself."""

from shopbound.choices import side_of
from shopbound.leaves import shuts_leaf
from shopbound.rows import behind_row
from shopbound.trees import look_at_tree


def shuts_side(facts, choice, side, tree):
    """Whether a side of a choice leads to facts that a tree shuts."""
    taken = side_of(facts, choice, side)
    return taken is not None and shuts(taken, tree)


def behind_part(facts, row):
    """The facts behind a row or a not, or None where it does not lead on."""
    if row[0] != "not":
        return behind_row(facts, row)
    if not shuts_side(facts, row[1], row[2], row[3]):
        return None
    return side_of(facts, row[1], 1 - row[2])


def shuts_end(facts, end):
    """Whether a leaf shuts facts, or both sides of a choice lead to facts that their trees shut."""
    if end[0] != "both":
        return shuts_leaf(facts, end)
    return shuts_side(facts, end[1], 0, end[2]) and shuts_side(facts, end[1], 1, end[3])


def shuts(facts, tree):
    """Whether a tree that was looked at shuts facts."""
    reached = facts
    for row in tree[0]:
        reached = behind_part(reached, row)
        if reached is None:
            return False
    return shuts_end(reached, tree[1])


def is_shut_by(facts, tree):
    """Whether a tree shuts facts; NoTree, ahead of all walking, for what is no tree for their shop."""
    look_at_tree(facts.shop(), tree)
    return shuts(facts, tree)
