"""[2], [31]: what a tree is, for a shop."""

import inspect
import unittest

from shopbound.errors import NoTree, ShopError
from shopbound.trees import look_at_tree
from tests.samples import copied, small_shop

KEEP = ("keep", "one")
MOVED = ("moved",)
LEAF = ([], MOVED)


def tree_shop():
    """A shop in which no name is of two kinds."""
    return small_shop(
        benches=[("b", []), ("c", []), ("d", [])],
        steps=[("one", "k", [("b", 3), ("c", 1)]), ("two", "l", [("b", 2)]), ("zed", "k", [("c", 1)])],
        jobs=[("j", 0, 20, True, ["one", "two"]), ("i", 0, 20, False, ["zed"])],
        setups=[("b", "k", "l", 1)],
        stocks=[("s", 0, 9, [("one", 1)], []), ("t", 0, 9, [], [])],
    )


ROWS = (("low", "one", "two"), ("high", "zed", "one"), ("low", "one", "one"), ("fit", "zed"))
CHOICES = (
    ("start", "one", 4), ("start", "one", 0), ("start", "one", -7), ("start", "zed", 21), ("start", "one", 10 ** 39),
    ("start", "one", -10 ** 39), ("on", "one", "c"), ("on", "two", "d"), ("order", "one", "two"), ("order", "zed", "zed"),
    ("keep", "two"),
)
LEAVES = (
    ("window", "one"), ("ring", ["one"]), ("ring", ["zed", "two"]), ("ring", ["one", "two", "zed", "one", "one"]),
    ("stretch", ["b"], 0, 20), ("stretch", ["d", "b", "c"], 0, 1), ("stretch", ["c", "b"], 19, 20), ("together", "j", 0, 20),
    ("together", "i", 3, 4), ("stock", "s", 0, "less"), ("stock", "t", 20, "more"), ("stock", "s", 20, "less"), ("moved",),
)
NO_ROWS = (
    ("low",), ("low", "one"), ("low", "one", "two", "zed"), ("low", "one", 2), ("low", "one", "b"), ("low", "j", "two"),
    ("low", "one", "nobody"), ("low", ["one"], "two"), ("low", "One", "two"), ("low", "", "two"), ("low", "one", True),
    ("high", "one"), ("high", "one", "s"), ("high", "k", "one"), ("high", "one", "two", 0), ("fit",), ("fit", "b"),
    ("fit", "one", "two"), ("fit", ["one"]), ("fit", None), ("fit", "ones"), ("LOW", "one", "two"), ("fits", "one"),
    ("window", "one"), ("moved",), ("keep", "one"), ("start", "one", 3), ("order", "one", "two"), ("both", KEEP, LEAF, LEAF),
    ("", "one"), (1, "one"), (None, "one"), (("low",), "one", "two"), (), "low", "fit one", 3, None, True, 1.5, {}, [],
    ["fit", "one"], ["low", "one", "two"], {"fit": "one"}, LEAF,
)
NO_CHOICES = (
    ("start", "one"), ("start", "one", "4"), ("start", "one", True), ("start", "one", False), ("start", "one", None),
    ("start", "one", 4.0), ("start", "b", 4), ("start", "nobody", 4), ("start", "one", 4, 4), ("start", "one", [4]),
    ("on", "one"), ("on", "one", "nobody"), ("on", "one", "two"), ("on", "b", "one"), ("on", "one", ["b"]),
    ("on", "one", "b", "c"), ("on", "one", 1), ("order", "one"), ("order", "one", "b"), ("order", "b", "one"),
    ("order", "one", "two", "zed"), ("order", "one", None), ("order", ["one", "two"]), ("keep",), ("keep", "b"),
    ("keep", "one", "two"), ("keep", ["one"]), ("keep", 1), ("low", "one", "two"), ("fit", "one"), ("window", "one"),
    ("moved",), ("", "one"), ("kept", "one"), (1, "one", 2), (), "keep", None, 1, True, {}, [], ["keep", "one"],
    ["start", "one", 4], LEAF,
)
NO_LEAVES = (
    ("window",), ("window", "b"), ("window", "one", "two"), ("window", ["one"]), ("window", 1), ("window", "nobody"),
    ("ring",), ("ring", []), ("ring", ("one", "two")), ("ring", "one"), ("ring", ["b"]), ("ring", ["one", "nobody"]),
    ("ring", ["one", 2]), ("ring", ["one", True]), ("ring", ["one", ["two"]]), ("ring", ["one"], ["two"]),
    ("ring", "one", "two"), ("ring", {"one": True}), ("ring", None),
    ("stretch", ["b"], 0), ("stretch", ["b"], 0, 20, 20), ("stretch", [], 0, 20), ("stretch", ["b", "b"], 0, 20),
    ("stretch", ["b", "c", "b"], 0, 20), ("stretch", ("b",), 0, 20), ("stretch", "b", 0, 20), ("stretch", ["one"], 0, 20),
    ("stretch", ["b", "nobody"], 0, 20), ("stretch", ["b", 1], 0, 20), ("stretch", ["b", ["c"]], 0, 20),
    ("stretch", [["b"], ["c"]], 0, 20), ("stretch", ["b"], 5, 5), ("stretch", ["b"], 6, 5), ("stretch", ["b"], 0, 0),
    ("stretch", ["b"], 20, 20), ("stretch", ["b"], -1, 5), ("stretch", ["b"], 0, 21), ("stretch", ["b"], 20, 21),
    ("stretch", ["b"], -2, -1), ("stretch", ["b"], False, 5), ("stretch", ["b"], 0, True), ("stretch", ["b"], "0", "5"),
    ("stretch", ["b"], None, 5), ("stretch", ["b"], 0, 5.0), ("stretch", 0, 5, ["b"]), ("stretch", ["b"], (0, 5)),
    ("together", "j", 0), ("together", "j", 0, 20, 20), ("together", "one", 0, 20), ("together", "nobody", 0, 20),
    ("together", ["j"], 0, 20), ("together", "j", 5, 5), ("together", "j", 6, 5), ("together", "j", -1, 5),
    ("together", "j", 0, 21), ("together", "j", True, 5), ("together", "j", 0, "5"), ("together", None, 0, 5),
    ("stock", "s", 0), ("stock", "s", 0, "less", 0), ("stock", "one", 0, "less"), ("stock", "j", 0, "less"),
    ("stock", "s", -1, "less"), ("stock", "s", 21, "less"), ("stock", "s", True, "less"), ("stock", "s", "0", "more"),
    ("stock", "s", None, "more"), ("stock", "s", 0, "Less"), ("stock", "s", 0, "least"), ("stock", "s", 0, ""),
    ("stock", "s", 0, None), ("stock", "s", 0, ["less"]), ("stock", "s", 0, 0), ("stock", ["s"], 0, "less"),
    ("moved", "one"), ("moved", 0), ("moved", ()), ("Moved",), ("move",), ("both", KEEP), ("both", KEEP, LEAF),
    ("both", KEEP, LEAF, LEAF, LEAF), ("both", LEAF, LEAF), ("both", [LEAF, LEAF]), ["both", KEEP, LEAF, LEAF],
    ("not", KEEP, 0, LEAF), ("low", "one", "two"), ("fit", "one"), ("keep", "one"), ("",), (1,), (None,), (MOVED,), (),
    "moved", None, 0, True, {}, [], ["moved"], ["window", "one"], ("stretch", "j", 0, 20), ("together", ["b"], 0, 20),
)
NO_TREES = (
    None, 0, 3, True, False, 1.5, "", "moved", "; moved", {}, {"rows": [], "end": MOVED}, [], (), [[], MOVED], ([],),
    ([], MOVED, MOVED), (MOVED,), MOVED, (MOVED, []), ((), MOVED), ([], [MOVED]), ([],), ([], []), (None, MOVED), ({}, MOVED),
    ("", MOVED), (0, MOVED), ("rows", MOVED), b"moved", object(), len, ("fit", "one"), [("fit", "one")],
)


class TreeCase(unittest.TestCase):
    def good(self, tree, shop=None):
        try:
            self.assertIsNone(look_at_tree(shop or tree_shop(), tree))
        except NoTree:
            self.fail(f"refused: {str(tree)[:300]}")

    def bad(self, tree, shop=None):
        with self.assertRaises(NoTree, msg=str(type(tree))):
            look_at_tree(shop or tree_shop(), tree)


class FormTest(TreeCase):
    def test_leaves(self):
        for leaf in LEAVES:
            self.good(([], leaf))

    def test_rows(self):
        for row in ROWS:
            self.good(([row], MOVED))
        self.good((list(ROWS) * 3, MOVED))

    def test_choices(self):
        for choice in CHOICES:
            self.good(([("not", choice, 0, LEAF), ("not", choice, 1, LEAF)], MOVED))
            self.good(([], ("both", choice, LEAF, LEAF)))

    def test_no_leaves(self):
        for leaf in NO_LEAVES:
            with self.subTest(leaf=leaf):
                self.bad(([], leaf))
                self.bad(([], ("both", KEEP, LEAF, ([], leaf))))
                self.bad(([], ("both", KEEP, ([], leaf), LEAF)))
                self.bad(([("not", KEEP, 0, ([], leaf))], MOVED))

    def test_no_rows(self):
        for row in NO_ROWS:
            with self.subTest(row=row):
                self.bad(([row], MOVED))
                self.bad(([("fit", "one"), row, ("fit", "one")], MOVED))
                self.bad(([], ("both", KEEP, LEAF, ([row], MOVED))))

    def test_no_choices(self):
        for choice in NO_CHOICES:
            with self.subTest(choice=choice):
                self.bad(([("not", choice, 0, LEAF)], MOVED))
                self.bad(([], ("both", choice, LEAF, LEAF)))

    def test_no_nots(self):
        for row in (
            ("not",), ("not", KEEP), ("not", KEEP, 0), ("not", KEEP, 0, LEAF, LEAF), ("not", KEEP, LEAF, 0), ("not", 0, KEEP, LEAF),
            ("not", KEEP, 0, MOVED), ("not", KEEP, 0, [LEAF]), ("not", KEEP, 0, []), ["not", KEEP, 0, LEAF], ("Not", KEEP, 0, LEAF),
        ):
            with self.subTest(row=row):
                self.bad(([row], MOVED))

    def test_sides(self):
        for side in (2, -1, True, False, None, "0", "1", 1.0, [0], (0,), 10 ** 30):
            with self.subTest(side=side):
                self.bad(([("not", KEEP, side, LEAF)], MOVED))

    def test_no_trees(self):
        for tree in NO_TREES:
            with self.subTest(tree=tree):
                self.bad(tree)
                self.bad(([("not", KEEP, 0, tree)], MOVED))
                self.bad(([], ("both", KEEP, tree, LEAF)))
                self.bad(([], ("both", KEEP, LEAF, tree)))

    def test_names_are_those_of_the_shop(self):
        shop = small_shop(steps=[("one", "k", [("b", 3)])], benches=[("b", [])])
        for leaf in (("window", "two"), ("together", "j", 0, 1), ("stock", "s", 0, "less"), ("stretch", ["c"], 0, 1)):
            self.good(([], leaf), small_shop(
                steps=[("two", "k", [("c", 3)])], jobs=[("j", 0, 9, True, ["two"])], stocks=[("s", 0, 1, [], [])],
            ))
            self.bad(([], leaf), shop)

    def test_the_horizon_is_that_of_the_shop(self):
        for horizon in (6, 7):
            shop = small_shop(horizon=horizon, stocks=[("s", 0, 1, [], [])], jobs=[("j", 0, 1, True, ["one"])])
            for leaf in (("stretch", ["b"], 0, horizon), ("together", "j", 0, horizon), ("stock", "s", horizon, "less")):
                self.good(([], leaf), shop)
            for leaf in (("stretch", ["b"], 0, horizon + 1), ("together", "j", 0, horizon + 1), ("stock", "s", horizon + 1, "less")):
                self.bad(([], leaf), shop)

    def test_the_refusal_is_one_of_its_own(self):
        self.assertTrue(issubclass(NoTree, ShopError))


def big_tree():
    """A tree with every kind of row, choice and end."""
    rows = list(ROWS) + [("not", choice, place % 2, ([], LEAVES[place])) for place, choice in enumerate(CHOICES)]
    tree = (rows, LEAVES[-1])
    for place, leaf in enumerate(LEAVES):
        tree = ([("fit", "one")], ("both", CHOICES[place % len(CHOICES)], ([], leaf), tree))
    return copied(tree)


def spoilt(thing, make):
    """A thing itself spoilt, and with each part at whatever depth spoilt, one at a time."""
    new = make(thing)
    if new is not None:
        yield new[0]
    if isinstance(thing, (list, tuple)):
        for place, part in enumerate(thing):
            for other in spoilt(part, make):
                yield type(thing)(list(thing[:place]) + [other] + list(thing[place + 1:]))


class SpoiltTest(TreeCase):
    def all_bad(self, make):
        many = 0
        for tree in spoilt(big_tree(), make):
            self.bad(tree)
            many += 1
        self.assertGreater(many, 60)

    def test_the_tree_itself(self):
        self.good(big_tree())

    def test_every_part_of_another_kind(self):
        for strange in (None, True, False, 1.5, {}, b"", "No", object()):
            self.all_bad(lambda part: (strange,))

    def test_lists_and_tuples_exchanged(self):
        def exchanged(part):
            if isinstance(part, list):
                return (tuple(part),)
            return (list(part),) if isinstance(part, tuple) else None
        self.all_bad(exchanged)

    def test_tuples_with_a_part_less(self):
        self.all_bad(lambda part: (part[:-1],) if isinstance(part, tuple) else None)
        self.all_bad(lambda part: (part[1:],) if isinstance(part, tuple) else None)

    def test_tuples_with_a_part_more(self):
        for more in (None, 0, "one", LEAF):
            self.all_bad(lambda part: (part + (more,),) if isinstance(part, tuple) else None)

    def test_texts_spoilt(self):
        for change in (str.upper, lambda text: text + " ", lambda text: text + "\n", lambda text: "", lambda text: [text]):
            self.all_bad(lambda part: (change(part),) if isinstance(part, str) else None)

    def test_numbers_of_another_kind(self):
        for change in (float, str, bool, lambda number: [number], lambda number: None):
            made = [tree for tree in spoilt(big_tree(), lambda part: (change(part),) if type(part) is int else None)]
            self.assertGreater(len(made), 20)
            for tree in made:
                self.bad(tree)


class CountTest(TreeCase):
    def rows(self, many):
        return [("fit", "one")] * many

    def test_rows(self):
        self.good((self.rows(2999), MOVED))
        self.bad((self.rows(3000), MOVED))

    def test_nots(self):
        self.good(([("not", KEEP, 0, LEAF)] * 1499 + self.rows(1), MOVED))
        self.bad(([("not", KEEP, 0, LEAF)] * 1499 + self.rows(2), MOVED))
        self.bad(([("not", KEEP, 0, LEAF)] * 1500, MOVED))

    def test_boths_and_the_same_tree_several_times(self):
        part = (self.rows(1498), MOVED)
        self.good(([("fit", "one")], ("both", KEEP, part, part)))
        self.bad((self.rows(2), ("both", KEEP, part, part)))
        other = (self.rows(1499), MOVED)
        self.bad(([("fit", "one")], ("both", KEEP, part, other)))
        self.bad(([("fit", "one")], ("both", KEEP, other, part)))
        self.good(([], ("both", KEEP, part, other)))

    def test_the_same_tree_deep_down(self):
        part = (self.rows(99), MOVED)
        self.good(([("not", KEEP, 1, part)] * 29 + self.rows(70), MOVED))
        self.bad(([("not", KEEP, 1, part)] * 29 + self.rows(71), MOVED))

    def test_doubled_trees(self):
        tree = LEAF
        for depth in range(2, 41):
            tree = ([], ("both", KEEP, tree, tree))
            if depth <= 11:
                self.good(tree)
            else:
                self.bad(tree)

    def test_lists_of_names_do_not_count(self):
        self.good((self.rows(2999), ("ring", ["one", "two"] * 2000)))


class DepthTest(TreeCase):
    def test_nots(self):
        tree = LEAF
        for depth in range(1, 46):
            (self.good if depth <= 40 else self.bad)(tree)
            tree = ([("fit", "one"), ("not", KEEP, 0, tree), ("fit", "one")], MOVED)

    def test_boths(self):
        for at_left in (True, False):
            tree = LEAF
            for depth in range(1, 46):
                (self.good if depth <= 40 else self.bad)(tree)
                tree = ([], ("both", KEEP, tree, LEAF) if at_left else ("both", KEEP, LEAF, tree))

    def test_both_by_turns(self):
        tree = LEAF
        for depth in range(1, 46):
            (self.good if depth <= 40 else self.bad)(tree)
            tree = ([("not", KEEP, 0, tree)], MOVED) if depth % 2 else ([], ("both", KEEP, LEAF, tree))

    def test_very_deep(self):
        tree = LEAF
        for depth in range(20000):
            tree = ([("not", KEEP, 0, tree)], MOVED)
        with self.assertRaises(NoTree):
            look_at_tree(tree_shop(), tree)
        bent = ([("not", KEEP, 2, tree)], MOVED)
        with self.assertRaises(NoTree):
            look_at_tree(tree_shop(), bent)
        while tree[0]:
            tree = tree[0].pop()[3]

    def test_a_tree_within_itself(self):
        rows = [("fit", "one")]
        tree = (rows, MOVED)
        rows.append(("not", KEEP, 0, tree))
        with self.assertRaises(NoTree):
            look_at_tree(tree_shop(), tree)
        rows.pop()
        self.good(tree)


class OwnTest(TreeCase):
    def test_what_is_handed_in_stays(self):
        shop = tree_shop()
        tree = big_tree()
        kept = copied(tree)
        look_at_tree(shop, tree)
        self.assertEqual(tree, kept)
        bent = ([("fit", "one"), ("fit", "nobody")], ("ring", ["one", "two"]))
        kept = copied(bent)
        self.bad(bent, shop)
        self.assertEqual(bent, kept)
        self.good(tree, shop)

    def test_interface(self):
        self.assertEqual(list(inspect.signature(look_at_tree).parameters), ["shop", "tree"])


if __name__ == "__main__":
    unittest.main()
