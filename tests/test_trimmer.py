"""[3], [39]: what trees hang on, and that nothing of that is left out of them."""

import unittest

from shopbound.facts import Facts
from shopbound.search import Search, Settled, explored
from shopbound.trimmer import Entry, entry_of_push, given_by, needs_ahead, needs_of_leaf, trimmed
from tests.roomy import crossing_shop, roomy_facts, setup_shop, trees_within
from tests.samples import small_shop

NOT = ("not", ("order", "of", "a"), 0, ([("low", "of", "a")], ("window", "a")))


def needs(*words):
    """Needs written as words, `first a`."""
    return sorted(tuple(word.split(" ")) for word in words)


class LeafTest(unittest.TestCase):
    def shop(self):
        steps = [("a", "k", [("b", 3)]), ("of", "k", [("b", 2), ("c", 4)]), ("two", "k", [("c", 2)]), ("zed", "k", [("b", 1)])]
        stocks = [("s", 1, 2, [("a", 1), ("of", 1)], [("two", 1), ("zed", 2)])]
        jobs = [("j", 0, 20, False, ["a", "two", "of"])]
        return small_shop(steps=steps, stocks=stocks, jobs=jobs)

    def facts(self, **windows):
        facts = Facts(self.shop(), 20, kept={"a": ("b", 4), "two": ("c", 4)}, most=0)
        for step, (first, last) in windows.items():
            facts.set_window(step, first, last)
        return facts

    def asked(self, facts, leaf, *words):
        self.assertEqual(sorted(needs_of_leaf(facts, leaf)), needs(*words))

    def test_window_and_ring(self):
        self.asked(self.facts(), ("window", "of"), "first of", "last of")
        self.asked(self.facts(), ("ring", ["a", "of", "two"]), "ahead a of", "ahead of two", "ahead two a")

    def test_stretch(self):
        facts = self.facts(a=(4, 5), of=(4, 5), two=(4, 5), zed=(1, 9))
        self.asked(facts, ("stretch", ["b"], 4, 8), "first a", "last a")
        self.asked(facts, ("stretch", ["b", "c"], 4, 8), "first a", "first of", "first two", "last a", "last of", "last two")
        self.asked(facts, ("stretch", ["c"], 4, 8), "first two", "last two")

    def test_together(self):
        facts = self.facts(a=(4, 5), of=(4, 9), two=(4, 5), zed=(4, 4))
        self.asked(facts, ("together", "j", 4, 9), "first a", "first two", "last a", "last two")

    def test_stock(self):
        facts = self.facts(a=(4, 5), of=(4, 9), two=(4, 5), zed=(1, 2))
        self.asked(facts, ("stock", "s", 5, "less"), "last a", "first two")
        self.asked(facts, ("stock", "s", 9, "less"), "last a", "last of")
        self.asked(facts, ("stock", "s", 3, "more"), "first a", "first of", "last zed")
        self.asked(facts, ("stock", "s", 7, "more"), "last two", "last zed")

    def test_moved(self):
        self.asked(self.facts(a=(5, 9)), ("moved",), "first a", "last a")
        self.asked(self.facts(a=(4, 9)), ("moved",))


class TrimTest(unittest.TestCase):
    def test_what_a_side_gives(self):
        for choice, side, given in (
            (("order", "a", "of"), 0, ("ahead", "a", "of")), (("order", "a", "of"), 1, ("ahead", "of", "a")),
            (("start", "a", 3), 0, ("last", "a")), (("start", "a", 3), 1, ("first", "a")),
            (("on", "a", "b"), 0, None), (("keep", "a"), 1, None),
        ):
            self.assertEqual(given_by(choice, side), given)
            behind = [("first", "zed")] + ([given] if given else [])
            self.assertEqual(needs_ahead(behind, choice, side), [("first", "zed")])

    def test_rows_of_the_pusher(self):
        for row, gives, wants, parts in (
            (("low", "a", "of"), ["first of"], ["ahead a of", "first a"], 1),
            (("high", "a", "of"), ["last a"], ["ahead a of", "last of"], 1),
            (("fit", "a"), ["first a", "last a"], [], 1),
            (NOT, ["ahead a of"], ["first of", "last a"], 3),
        ):
            entry = entry_of_push(row)
            self.assertEqual((entry.row, entry.parts), (row, parts))
            self.assertEqual(sorted(entry.gives()), needs(*gives))
            self.assertEqual(sorted(entry.needs), needs(*wants))

    def told(self, rows, asked, kept, ahead):
        told = trimmed([entry_of_push(row) for row in rows], needs(*asked))
        self.assertEqual([entry.row for entry in told[0]], kept)
        self.assertEqual(sorted(told[1]), needs(*ahead))

    def test_rows_left_out(self):
        low, high, fit = ("low", "a", "of"), ("high", "a", "of"), ("fit", "of")
        self.told([low, high, fit], ["first zed"], [], ["first zed"])
        self.told([low, high, fit], ["first of"], [low, fit], ["ahead a of", "first a"])
        self.told([low, high, fit], ["last of"], [fit], ["last of"])
        self.told([high, low], ["last a", "first a"], [high], ["ahead a of", "last of", "first a"])
        self.told([fit, low], ["first of"], [low], ["ahead a of", "first a"])
        self.told([low, ("low", "of", "zed")], ["first zed"], [low, ("low", "of", "zed")], ["ahead a of", "ahead of zed", "first a"])

    def test_nots_left_out(self):
        low = ("low", "a", "of")
        self.told([NOT, low], ["first of"], [NOT, low], ["first a", "first of", "last a"])
        self.told([NOT, low], ["last of"], [], ["last of"])

    def test_nots_that_are_never_left_out(self):
        row = ("not", ("on", "a", "b"), 0, ([], ("window", "a")))
        told = trimmed([Entry(row, needs("first a"), 2)], needs("last zed"))
        self.assertEqual(([entry.row for entry in told[0]], sorted(told[1])), ([row], needs("first a", "last zed")))


class PartsTest(unittest.TestCase):
    def test_parts_and_boths_are_counted(self):
        asked = [Facts(setup_shop(5, seed), limit) for seed, limit in ((0, 23), (1, 18), (2, 17))]
        asked += [roomy_facts(seed)[1] for seed in range(100)]
        shut = 0
        for facts in asked:
            search = Search(400)
            told = explored(search, Settled(facts), 1)
            if told[0] == "shut":
                shut += 1
                inner = trees_within(told[1].as_tree())
                self.assertEqual(told[1].parts, sum(len(tree[0]) + 1 for tree in inner))
                self.assertEqual(search.made, len([tree for tree in inner if tree[1][0] == "both"]))
        self.assertGreater(shut, 30)

    def test_a_dive_stops_where_a_tree_would_be_too_deep(self):
        search = Search(400)
        told = explored(search, Settled(Facts(crossing_shop(8, 5, 1), 45)), 1)
        self.assertEqual(told, ("spent", None))
        # all on one way down: below the last both there is a tree yet, and in its nots' trees nots again
        self.assertLess(search.made, 38)


if __name__ == "__main__":
    unittest.main()
