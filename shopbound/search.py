"""Facts searched: a schedule that goes with them, or a tree that shuts them, by at most so many boths."""

from shopbound.choices import side_of
from shopbound.conflicts import choice_for, likely_plan
from shopbound.placing import placed_by
from shopbound.pusher import MOST_ROWS, push_of
from shopbound.trees import MOST_COUNTED
from shopbound.trimmer import Entry, entry_of_push, needs_ahead, needs_of_leaf, trimmed

# a tree may have nots, and the trees in these nots again
MOST_DEPTH = 38
# a choice is the dearer, the more steps there are
MOST_WORK = 12000
SPENT = ("spent", None)


class Search:
    """How many boths may be made, how many were made, and the work done so far."""

    def __init__(self, most):
        self.most = most
        self.made = 0
        self.work = 0


class Settled:
    """Facts pushed as far as they go: those reached, the rows that led there, and a leaf or None."""

    def __init__(self, facts):
        push = push_of(facts)
        self.rows = push.rows
        while push.leaf is None and len(push.rows) >= MOST_ROWS:
            push = push_of(push.reached)
            self.rows = self.rows + push.rows
        self.reached = push.reached
        self.leaf = push.leaf


class Ending:
    """The end of a tree with all that stands within it: what it needs, and how many parts it has."""

    def __init__(self, end, needs, parts):
        self.end = end
        self.needs = needs
        self.parts = parts


class ShutTree:
    """A tree that shuts facts, what it needs of them, and how many rows, nots, boths and leaves it has."""

    def __init__(self, entries, ending):
        kept = trimmed(entries, ending.needs)
        self.entries = kept[0]
        self.needs = kept[1]
        self.ending = ending
        self.parts = ending.parts + sum([entry.parts for entry in self.entries])

    def as_tree(self):
        """The tree by itself."""
        return ([entry.row for entry in self.entries], self.ending.end)


def ending_of_both(choice, first, second):
    """The end by both sides of a choice, shut by two trees."""
    end = ("both", choice, first.as_tree(), second.as_tree())
    needs = needs_ahead(first.needs, choice, 0) + needs_ahead(second.needs, choice, 1)
    return Ending(end, needs, 1 + first.parts + second.parts)


class Node:
    """A tree on its way: the facts reached, the rows and nots that led there, and a leaf or None."""

    def __init__(self, settled):
        self.entries = []
        self.reached = None
        self.leaf = None
        self.go_on(settled)

    def go_on(self, settled):
        """Goes on to facts pushed."""
        self.entries.extend([entry_of_push(row) for row in settled.rows])
        self.reached = settled.reached
        self.leaf = settled.leaf

    def leave_out(self, choice, side, tree, settled):
        """Goes on by a not of a side that a tree shuts, to the facts of the other side."""
        row = ("not", choice, side, tree.as_tree())
        self.entries.append(Entry(row, needs_ahead(tree.needs, choice, side), 1 + tree.parts))
        self.go_on(settled)

    def shut_by(self, ending):
        """The tree of the rows and nots so far, and an end."""
        return ("shut", ShutTree(self.entries, ending))


def shut_at_leaf(node):
    """The tree of a node that has come to a leaf."""
    return node.shut_by(Ending(node.leaf, needs_of_leaf(node.reached, node.leaf), 1))


def parted(search, node, choice, sides, depth):
    """What comes of both sides of a choice: a tuple as explored tells it."""
    if search.made >= search.most or depth >= MOST_DEPTH:
        return SPENT
    search.made = search.made + 1
    # a delay cures a stock, so that side is the likely one
    near = 1 if choice[0] == "start" else 0
    trees = {}
    for side in (near, 1 - near):
        told = explored(search, sides[side], depth + 1)
        if told[0] != "shut":
            return told
        if told[1].parts > MOST_COUNTED:
            return SPENT
        trees[side] = told[1]
    return node.shut_by(ending_of_both(choice, trees[0], trees[1]))


def likely_schedule(facts):
    """A schedule that goes with pushed facts, built by the order of the steps' firsts and lasts, or None."""
    names = facts.shop().step_names()
    plan = placed_by(facts, sorted(names, key=lambda step: (facts.first_of(step), facts.last_of(step))))
    return plan if plan is not None and facts.goes(plan) else None


def explored(search, settled, depth):
    """What comes of facts pushed: a tuple of the word found, shut or spent, and a schedule, a tree or None."""
    node = Node(settled)
    while node.leaf is None:
        plan = likely_plan(node.reached)
        choice = choice_for(node.reached, plan)
        if choice is None:
            return ("found", plan)
        schedule = likely_schedule(node.reached)
        if schedule is not None:
            return ("found", schedule)
        if search.work >= MOST_WORK:
            return SPENT
        search.work = search.work + len(plan)
        sides = [Settled(side_of(node.reached, choice, side)) for side in (0, 1)]
        shut_sides = [side for side in (0, 1) if sides[side].leaf is not None]
        if len(shut_sides) == 0:
            return parted(search, node, choice, sides, depth)
        side = shut_sides[0]
        node.leave_out(choice, side, shut_at_leaf(Node(sides[side]))[1], sides[1 - side])
    return shut_at_leaf(node)


def searched(facts, most):
    """A tuple (word, thing, many): found and a schedule, shut and a tree, or spent and None; many boths were made."""
    search = Search(most)
    told = explored(search, Settled(facts), 1)
    if told[0] == "shut" and told[1].parts > MOST_COUNTED:
        told = SPENT
    thing = told[1].as_tree() if told[0] == "shut" else told[1]
    return (told[0], thing, search.made)
