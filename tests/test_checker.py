"""[2], [3], [32], [33]: the checker walks trees, and lets by none that some schedule contradicts."""

import inspect
import random
import unittest

from shopbound.checker import is_shut_by
from shopbound.choices import side_of
from shopbound.errors import NoTree
from shopbound.facts import Facts
from shopbound.leaves import shuts_leaf
from shopbound.rows import behind_row
from shopbound.schedules import length_of
from tests.samples import chance_parts, copied, shop_of, small_shop
from tests.slow import chance_facts, kept_schedules, lively_seeds, slow_goes, state_of
from tests.test_choices import choices_of
from tests.test_leaves import leaves_of

ORDER = ("order", "one", "two")
LOW = ("low", "one", "two")
BACK = ("low", "two", "one")
FIRST = ([LOW], ("window", "two"))
SECOND = ([BACK], ("window", "one"))


def two_on_b(**parts):
    """Two steps that have one bench."""
    new = {"steps": [("one", "k", [("b", 3)]), ("two", "k", [("b", 3)]), ("zed", "k", [("c", 1), ("b", 1)])]}
    new.update(parts)
    return small_shop(**new)


class WalkTest(unittest.TestCase):
    def told(self, tree, asked, facts=None):
        facts = facts or Facts(two_on_b(), 5)
        before = state_of(facts)
        kept = copied(tree)
        self.assertIs(is_shut_by(facts, tree), asked, tree)
        self.assertEqual(state_of(facts), before)
        self.assertEqual(tree, kept)

    def test_a_leaf_alone(self):
        self.told(([], ("window", "one")), False)
        self.told(([], ("window", "one")), True, Facts(two_on_b(), 2))
        self.told(([], ("stretch", ["b"], 0, 5)), True)
        self.told(([], ("stretch", ["b"], 0, 5)), False, Facts(two_on_b(), 6))
        self.told(([], ("moved",)), False)

    def test_both(self):
        tree = ([], ("both", ORDER, FIRST, SECOND))
        self.told(tree, True)
        self.told(tree, False, Facts(two_on_b(), 6))

    def test_both_trees_exchanged(self):
        self.told(([], ("both", ORDER, SECOND, FIRST)), False)
        self.told(([], ("both", ("order", "two", "one"), SECOND, FIRST)), True)

    def test_one_tree_of_both_does_not_shut(self):
        no_leaf = ([LOW], ("window", "one"))
        self.told(([], ("both", ORDER, no_leaf, SECOND)), False)
        self.told(([], ("both", ORDER, FIRST, ([BACK], ("window", "two")))), False)
        self.told(([], ("both", ORDER, FIRST, FIRST)), False)
        self.told(([], ("both", ORDER, SECOND, SECOND)), False)

    def test_a_choice_that_leads_to_none(self):
        shut = ([], ("window", "two"))
        facts = Facts(two_on_b(), 2)
        self.told(shut, True, facts)
        for choice in (("order", "one", "zed"), ("on", "one", "c"), ("keep", "one")):
            self.told(([], ("both", choice, shut, shut)), False, facts)
            self.told(([("not", choice, 0, shut)], ("window", "two")), False, facts)
            self.told(([("not", choice, 1, shut)], ("window", "two")), False, facts)
        self.told(([], ("both", ORDER, shut, shut)), True, facts)

    def test_rows_one_by_one(self):
        facts = Facts(two_on_b(links=[("one", "two", 0), ("two", "zed", 0)]), 6)
        rows = [("low", "one", "two"), ("low", "two", "zed")]
        self.told((rows, ("window", "zed")), True, facts)
        self.told((rows[::-1], ("window", "zed")), False, facts)
        self.told((rows[:1], ("window", "zed")), False, facts)
        self.told((rows[1:], ("window", "zed")), False, facts)
        self.told((rows[::-1] + rows[1:], ("window", "zed")), True, facts)
        self.told(([("high", "two", "zed"), ("high", "one", "two")], ("window", "one")), True, facts)
        self.told(([("high", "one", "two"), ("high", "two", "zed")], ("window", "one")), False, facts)

    def test_a_row_that_leads_to_none(self):
        facts = Facts(two_on_b(), 2)
        shut = ("window", "one")
        self.told(([], shut), True, facts)
        self.told(([("fit", "zed")], shut), True, facts)
        for row in (LOW, BACK, ("high", "one", "two"), ("fit", "one"), ("low", "one", "one")):
            self.told(([row], shut), False, facts)
            self.told(([("fit", "zed"), row], shut), False, facts)
            self.told(([row, ("fit", "zed")], shut), False, facts)

    def test_a_row_within_an_inner_tree_that_leads_to_none(self):
        self.told(([], ("both", ORDER, ([LOW, BACK], ("window", "two")), SECOND)), False)
        self.told(([], ("both", ORDER, FIRST, ([BACK, ("fit", "one")], ("window", "one")))), False)

    def test_a_not_leads_to_the_other_side(self):
        self.told(([("not", ORDER, 0, FIRST), BACK], ("window", "one")), True)
        self.told(([("not", ORDER, 1, SECOND), LOW], ("window", "two")), True)
        self.told(([("not", ORDER, 0, FIRST), LOW], ("window", "two")), False)
        self.told(([("not", ORDER, 1, SECOND), BACK], ("window", "one")), False)

    def test_a_not_whose_tree_does_not_shut(self):
        self.told(([("not", ORDER, 0, SECOND), BACK], ("window", "one")), False)
        self.told(([("not", ORDER, 1, FIRST), LOW], ("window", "two")), False)
        self.told(([("not", ORDER, 0, ([], ("window", "two"))), BACK], ("window", "one")), False)
        self.told(([("not", ORDER, 0, ([LOW], ("window", "one"))), BACK], ("window", "one")), False)

    def test_a_not_whose_end_does_not_shut(self):
        self.told(([("not", ORDER, 0, FIRST)], ("window", "one")), False)
        self.told(([("not", ORDER, 0, FIRST), BACK], ("window", "two")), False)

    def test_nots_one_behind_the_other(self):
        facts = Facts(two_on_b(), 7)
        facts.set_window("two", 2, 2)
        early = ([], ("stretch", ["b"], 2, 3))
        late = ([], ("stretch", ["b"], 4, 5))
        end = ("stretch", ["b"], 3, 4)
        rows = [("not", ("start", "one", 1), 0, early), ("not", ("start", "one", 3), 1, late)]
        self.told((rows, end), True, facts)
        self.told((rows[::-1], end), True, facts)
        self.told((rows[:1], end), False, facts)
        self.told((rows[1:], end), False, facts)
        self.told(([], end), False, facts)

    def test_what_a_not_found_does_not_reach_beyond_its_tree(self):
        inner = ([LOW], ("window", "two"))
        self.told(([("not", ORDER, 0, inner)], ("window", "two")), False)
        self.told(([("not", ORDER, 0, inner)], ("ring", ["one", "two"])), False)

    def test_trees_deep_within_one_another(self):
        shut = ([], ("both", ORDER, FIRST, SECOND))
        by_boths = shut
        by_nots = shut
        for t in range(38):
            by_boths = ([], ("both", ("start", "zed", t), shut, by_boths))
            by_nots = ([("not", ("start", "zed", t), 0, by_nots), ("not", ORDER, 0, FIRST), BACK], ("window", "one"))
        for tree in (by_boths, by_nots):
            self.told(tree, True)
            self.told(tree, False, Facts(two_on_b(), 6))
            with self.assertRaises(NoTree):
                is_shut_by(Facts(two_on_b(), 5), ([], ("both", ORDER, tree, tree)))

    def test_holds_and_kept_plans(self):
        facts = Facts(two_on_b(), 20, {"one": ("b", 1)}, {"two": ("b", 2)}, 0)
        tree = ([("not", ("keep", "two"), 1, ([], ("moved",)))], ("stretch", ["b"], 1, 5))
        self.told(tree, True, facts)
        self.told(tree, False, Facts(two_on_b(), 20, {"one": ("b", 1)}, {"two": ("b", 4)}, 0))
        self.told(tree, False, Facts(two_on_b(), 20, {"one": ("b", 1)}, {"two": ("b", 2)}, 1))
        self.told(tree, False, Facts(two_on_b(), 20, None, {"two": ("b", 2)}, 0))

    def test_no_tree_ahead_of_all_walking(self):
        facts = Facts(two_on_b(), 5)
        for tree in (
            None, [], ([], ("window", "nobody")), ([("fit", "nobody")], ("window", "one")),
            ([LOW], ("window", "nobody")), ([LOW, ("fit", "nobody")], ("window", "one")),
            ([], ("both", ORDER, ([], ("window", "one")), ([], ("window", "nobody")))),
            ([("not", ORDER, 0, ([], ("window", "one"))), ("fit", "nobody")], ("window", "one")),
            ([("not", ORDER, 2, FIRST)], ("window", "one")), ([], ("stretch", ["b"], 0, 21)),
        ):
            before = state_of(facts)
            with self.assertRaises(NoTree):
                is_shut_by(facts, tree)
            self.assertEqual(state_of(facts), before)

    def test_interface(self):
        self.assertEqual(list(inspect.signature(is_shut_by).parameters), ["facts", "tree"])


def rows_of(parts):
    """Every row of a small shop."""
    steps = [row[0] for row in parts["steps"]]
    rows = [("fit", step) for step in steps]
    rows.extend((word, one, other) for word in ("low", "high") for one in steps for other in steps)
    return rows


class Grower:
    """Grows trees by chance that shut facts."""

    def __init__(self, parts, chance):
        self.chance = chance
        self.rows = rows_of(parts)
        self.choices = choices_of(parts)
        leaves = leaves_of(parts)
        self.leaves = [leaf for leaf in leaves if leaf[0] in ("window", "ring", "moved")]
        self.many = chance.sample(leaves, min(len(leaves), 40))

    def grown(self, facts, depth):
        """A tree that shuts facts, or None where none was found."""
        rows = []
        for row in self.chance.sample(self.rows, min(len(self.rows), self.chance.randint(0, 8))):
            new = behind_row(facts, row)
            if new is not None:
                rows.append(row)
                facts = new
        if depth > 0 and self.chance.random() < 0.4:
            facts = self.with_not(facts, rows, depth)
        shut = [leaf for leaf in self.leaves + self.many if shuts_leaf(facts, leaf)]
        end = None
        if depth > 0 and (not shut or self.chance.random() < 0.4):
            end = self.both(facts, depth)
        if end is None and shut:
            end = self.chance.choice(shut)
        return None if end is None else (rows, end)

    def with_not(self, facts, rows, depth):
        for choice in self.chance.sample(self.choices, 2):
            side = self.chance.randint(0, 1)
            taken = side_of(facts, choice, side)
            tree = None if taken is None else self.grown(taken, depth - 1)
            if tree is not None:
                rows.append(("not", choice, side, tree))
                return side_of(facts, choice, 1 - side)
        return facts

    def both(self, facts, depth):
        for choice in self.chance.sample(self.choices, 3):
            sides = [side_of(facts, choice, side) for side in (0, 1)]
            trees = [None if side is None else self.grown(side, depth - 1) for side in sides]
            if None not in trees:
                return ("both", choice, trees[0], trees[1])
        return None


def bent(tree, grower):
    """A tree with one thing in it exchanged by chance."""
    chance = grower.chance
    rows, end = list(tree[0]), tree[1]
    way = chance.randint(0, 6)
    if way == 0 and rows:
        rows.pop(chance.randrange(len(rows)))
    elif way == 1:
        rows.insert(chance.randint(0, len(rows)), chance.choice(grower.rows))
    elif way == 2:
        chance.shuffle(rows)
    elif way == 3 or (way == 4 and end[0] != "both"):
        end = chance.choice(grower.many)
    elif end[0] == "both":
        if way == 4:
            end = ("both", chance.choice(grower.choices), end[2], end[3])
        elif way == 5:
            end = ("both", end[1], end[3], end[2])
        else:
            end = ("both", end[1], bent(end[2], grower), end[3])
    elif rows and rows[-1][0] == "not":
        word, choice, side, inner = rows[-1]
        rows[-1] = (word, choice, 1 - side, inner) if way == 5 else (word, choice, side, bent(inner, grower))
    return (rows, end)


class ManyTest(unittest.TestCase):
    def test_no_schedule_goes_with_facts_that_a_tree_shuts(self):
        seen = {"good": 0, "both": 0, "not": 0, "bent and shut": 0, "bent and not": 0, "left": 0}
        for seed in lively_seeds():
            for turn in range(3):
                parts, facts = chance_facts(seed, 20 + turn)
                grower = Grower(parts, random.Random(f"{seed} {turn}"))
                going = [schedule for schedule in kept_schedules(seed) if slow_goes(parts, facts, schedule)]
                for trial in range(3):
                    tree = grower.grown(facts, 2)
                    if tree is None:
                        seen["left"] += 1
                        tree = (self.some_rows(grower), ("both", grower.chance.choice(grower.choices), *[
                            ([], grower.chance.choice(grower.many)) for _ in (0, 1)]))
                    else:
                        self.assertTrue(is_shut_by(facts, tree), (seed, turn, tree))
                        self.assertEqual(going, [], (seed, turn, tree))
                        seen["good"] += 1
                        seen["both"] += tree[1][0] == "both"
                        seen["not"] += any(row[0] == "not" for row in tree[0])
                    for _ in range(4):
                        tree = bent(tree, grower)
                        shut = is_shut_by(facts, tree)
                        seen["bent and shut" if shut else "bent and not"] += 1
                        self.assertFalse(shut and going, (seed, turn, tree))
        self.assertGreater(min(seen.values()), 40, seen)

    def some_rows(self, grower):
        return grower.chance.sample(grower.rows, min(len(grower.rows), 2))

    def test_no_schedule_ends_by_a_limit_whose_facts_a_tree_shuts(self):
        shut = 0
        best = 0
        for seed in lively_seeds():
            parts = chance_parts(seed)
            shop = shop_of(parts)
            grower = Grower(parts, random.Random(seed))
            least = min(length_of(shop, schedule) for schedule in kept_schedules(seed))
            for limit, depth in ((least - 2, 2), (least - 1, 2), (least, 1)):
                facts = Facts(shop, limit)
                for trial in range(3):
                    tree = grower.grown(facts, depth)
                    if tree is not None:
                        self.assertLess(limit, least)
                        self.assertTrue(is_shut_by(facts, tree))
                        for higher in range(least, parts["horizon"] + 1):
                            self.assertFalse(is_shut_by(Facts(shop, higher), tree))
                        shut += 1
                        best += limit == least - 1
        self.assertGreater(shut, 100)
        self.assertGreater(best, 20)


if __name__ == "__main__":
    unittest.main()
