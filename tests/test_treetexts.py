"""[2], [34]: trees written as words, and read back; what writes none is refused."""

import inspect
import random
import unittest

from shopbound.errors import NoTree
from shopbound.pusher import pushed_on
from shopbound.treetexts import read_tree, show_tree
from tests.roomy import roomy_facts
from tests.samples import copied, spoil_lists

LEAF = ([], ("moved",))
ROWS = (
    (("low", "one", "two"), "low one two"),
    (("high", "one", "two"), "high one two"),
    (("low", "one", "one"), "low one one"),
    (("fit", "one"), "fit one"),
    (("low", "low", "not"), "low low not"),
    (("high", "fit", "fit"), "high fit fit"),
    (("fit", "fit"), "fit fit"),
    (("fit", "moved"), "fit moved"),
)
CHOICES = (
    (("start", "one", 7), "start one 7"),
    (("start", "one", 0), "start one 0"),
    (("start", "start", -12), "start start -12"),
    (("start", "one", -1), "start one -1"),
    (("start", "one", 10 ** 40 - 1), "start one " + "9" * 40),
    (("start", "one", 1 - 10 ** 40), "start one -" + "9" * 40),
    (("on", "one", "saw"), "on one saw"),
    (("on", "on", "on"), "on on on"),
    (("order", "one", "two"), "order one two"),
    (("order", "keep", "order"), "order keep order"),
    (("keep", "one"), "keep one"),
    (("keep", "keep"), "keep keep"),
)
LEAVES = (
    (("window", "one"), "window one"),
    (("window", "window"), "window window"),
    (("ring", ["one"]), "ring one"),
    (("ring", ["one", "two", "one"]), "ring one two one"),
    (("ring", ["ring", "both", "less"]), "ring ring both less"),
    (("stretch", ["saw"], 0, 7), "stretch 0 7 saw"),
    (("stretch", ["saw", "oven", "stretch"], 3, 10 ** 6), "stretch 3 1000000 saw oven stretch"),
    (("stretch", ["saw"], 9999998, 9999999), "stretch 9999998 9999999 saw"),
    (("together", "j", 3, 9), "together j 3 9"),
    (("together", "together", 0, 1), "together together 0 1"),
    (("stock", "boards", 0, "less"), "stock boards 0 less"),
    (("stock", "more", 9999999, "more"), "stock more 9999999 more"),
    (("moved",), "moved"),
)
NO_ROWS = (
    "low one", "low", "low one two two", "low one 2", "low One two", "low  one two", "low one  two", "low one\ttwo",
    "high one", "fit", "fit one two", "fit 1", "fit ninechars", "fit one,", "Low one two", "lows one two", "LOW one two",
    "fit [", "fit ;", "not", "not moved", "not keep one", "not keep one 0", "not keep one 0 [", "not keep one 0 [ ]",
    "not keep one 0 ; moved", "not keep one 2 [ ; moved ]", "not keep one -1 [ ; moved ]", "not keep one 00 [ ; moved ]",
    "not keep one 01 [ ; moved ]", "not keep one [ ; moved ]", "not keep one 0 0 [ ; moved ]", "not 0 keep one [ ; moved ]",
    "not keep one 0 [; moved ]", "not keep one 0 [ ; moved]", "not keep one 0 ( ; moved )", "not keep one 0 [ ; moved ] ]",
    "not keep one 0 [ [ ; moved ] ]", "not keep one 0 [ ; moved ] [ ; moved ]", "not keep one True [ ; moved ]",
    "not keep one 0 [ moved ]", "not fit one 0 [ ; moved ]", "not keep one 0 ] ; moved [", "window one", "moved", "one",
    "both keep one [ ; moved ] [ ; moved ]",
)
NO_CHOICES = (
    "keep", "keep one two", "keep 1", "start one", "start 7", "start one seven", "start one 7 7", "start one two 7",
    "start one -0", "start one 07", "start one -07", "start one +7", "start one 7.0", "start one 7.", "start one --7",
    "start one - 7", "start one -", "start one 1e3", "start one 1_0", "start one " + "9" * 41, "start one -" + "9" * 41,
    "start one None", "start one 0x1", "on one", "on one saw oven", "on one 1", "order one", "order one two three",
    "order one 2", "Order one two", "low one two", "window one", "moved", "",
)
NO_LEAVES = (
    "window", "window one two", "window 1", "ring", "ring 1", "ring one 2", "ring one  two", "stretch 0 7",
    "stretch 0 saw", "stretch saw", "stretch saw 0 7", "stretch 7 7 saw", "stretch 8 7 saw", "stretch 0 7 saw saw",
    "stretch 0 7 saw oven saw", "stretch -1 7 saw", "stretch 00 7 saw", "stretch 0 07 saw", "stretch 0 10000000 saw",
    "stretch 10000000 10000001 saw", "stretch 0 +7 saw", "stretch 0 7.0 saw", "stretch 0 7 Saw", "stretch 0 7 saw 9",
    "together j", "together j 0", "together 0 7 j", "together j 7 7", "together j 8 7", "together j -1 7",
    "together j 0 7 8", "together j 0 10000000", "together j 0 07", "together j 0 7 j", "stock boards 3",
    "stock boards less", "stock boards 3 les", "stock boards 3 Less", "stock boards 3 less more", "stock boards -3 less",
    "stock boards -0 less", "stock boards 03 less", "stock boards 10000000 less", "stock boards less 3", "stock 3 less",
    "moved one", "moved moved", "Moved", "moved ;", "fit one", "low one two", "keep one", "",
    "both keep one", "both keep one [ ; moved ]", "both keep one [ ; moved ] ; moved", "both [ ; moved ] [ ; moved ]",
    "both keep one 0 [ ; moved ] [ ; moved ]", "both keep one [ ; moved ] [ ; moved ] [ ; moved ]",
    "both keep one [ ; moved [ ; moved ] ]", "both keep one [ ; moved ][ ; moved ]", "both keep one [ ; moved ] [ ; moved",
    "both moved [ ; moved ] [ ; moved ]", "not keep one 0 [ ; moved ]",
)


def deep_tree(many):
    """So many trees within one another."""
    tree = ([], ("moved",))
    for place in range(many - 1):
        if place % 3 == 0:
            tree = ([("not", ("keep", "one"), 1, tree)], ("moved",))
        elif place % 3 == 1:
            tree = ([], ("both", ("keep", "one"), tree, ([], ("moved",))))
        else:
            tree = ([], ("both", ("keep", "one"), ([], ("moved",)), tree))
    return tree


def chance_tree(chance, depth):
    """A tree of chance."""
    rows = []
    for _ in range(chance.randint(0, 3)):
        if depth > 0 and chance.random() < 0.4:
            rows.append(("not", chance.choice(CHOICES)[0], chance.randint(0, 1), chance_tree(chance, depth - 1)))
        else:
            rows.append(chance.choice(ROWS)[0])
    if depth > 0 and chance.random() < 0.6:
        choice = chance.choice(CHOICES)[0]
        return (rows, ("both", choice, chance_tree(chance, depth - 1), chance_tree(chance, depth - 1)))
    return copied((rows, chance.choice(LEAVES)[0]))


class TextCase(unittest.TestCase):
    def written(self, tree, text):
        kept = copied(tree)
        self.assertEqual(show_tree(tree), text)
        self.assertEqual(tree, kept)
        self.assertEqual(read_tree(text), tree)

    def refused(self, text):
        with self.assertRaises(NoTree, msg=repr(text)) as caught:
            read_tree(text)
        self.assertIs(type(caught.exception), NoTree)


class GoodTest(TextCase):
    def test_leaves(self):
        for leaf, text in LEAVES:
            self.written(([], leaf), "; " + text)

    def test_rows(self):
        for row, text in ROWS:
            self.written(([row], ("moved",)), text + " ; moved")
            self.written(([row, row], ("moved",)), text + " " + text + " ; moved")

    def test_choices(self):
        for choice, text in CHOICES:
            for side in (0, 1):
                self.written(([("not", choice, side, LEAF)], ("moved",)), f"not {text} {side} [ ; moved ] ; moved")
            self.written(([], ("both", choice, LEAF, LEAF)), f"; both {text} [ ; moved ] [ ; moved ]")

    def test_trees_in_one_another(self):
        first = ([("fit", "one")], ("window", "one"))
        second = ([], ("ring", ["one", "two"]))
        both = ([("low", "one", "two")], ("both", ("order", "one", "two"), first, second))
        text = "low one two ; both order one two [ fit one ; window one ] [ ; ring one two ]"
        self.written(both, text)
        nots = ([("not", ("keep", "one"), 1, both), ("fit", "two")], ("both", ("on", "one", "saw"), second, both))
        self.written(nots, f"not keep one 1 [ {text} ] fit two ; both on one saw [ ; ring one two ] [ {text} ]")

    def test_trees_of_chance(self):
        chance = random.Random(5)
        for _ in range(200):
            tree = chance_tree(chance, 4)
            self.written(tree, show_tree(tree))

    def test_told_trees(self):
        shut = 0
        for seed in range(100):
            tree = pushed_on(roomy_facts(seed)[1])
            if tree[1] is not None:
                shut += 1
                self.written(tree, show_tree(tree))
        self.assertGreater(shut, 20)

    def test_3000_counted(self):
        many = [("fit", "a")] * 2999
        self.written((many, ("moved",)), "fit a " * 2999 + "; moved")
        self.refused("fit a " * 3000 + "; moved")
        side = "[ " + "fit a " * 1498 + "; moved ]"
        self.assertEqual(len(read_tree(f"fit a ; both keep a {side} {side}")[1][2][0]), 1498)
        self.refused(f"fit a fit a ; both keep a {side} {side}")
        inner = "not keep a 0 [ ; moved ] "
        self.assertEqual(len(read_tree("fit a " + inner * 1499 + "; moved")[0]), 1500)
        self.refused("fit a fit a " + inner * 1499 + "; moved")
        self.refused("fit a " * 20000 + "; moved")

    def test_40_within_one_another(self):
        for many in (39, 40):
            self.written(deep_tree(many), show_tree(deep_tree(many)))
        self.refused(show_tree(deep_tree(41)))
        self.refused(show_tree(deep_tree(42)))
        self.refused("; both keep a [ " * 3000)
        self.refused("not keep a 0 [ " * 3000)

    def test_what_is_told_is_the_askers_own(self):
        text = "not keep one 1 [ ; ring one two ] ; both keep one [ ; stretch 0 3 saw oven ] [ fit one ; moved ]"
        told = read_tree(text)
        kept = copied(told)
        spoil_lists(told)
        self.assertEqual(read_tree(text), kept)

    def test_names(self):
        self.assertEqual(str(inspect.signature(show_tree)), "(tree)")
        self.assertEqual(str(inspect.signature(read_tree)), "(text)")


class WrongTest(TextCase):
    def test_rows(self):
        for text in NO_ROWS:
            self.refused(text + " ; moved")
            self.refused("fit one " + text + " ; moved")

    def test_choices(self):
        for text in NO_CHOICES:
            self.refused(f"not {text} 0 [ ; moved ] ; moved")
            self.refused(f"; both {text} [ ; moved ] [ ; moved ]")

    def test_leaves(self):
        for text in NO_LEAVES:
            self.refused("; " + text)
            self.refused(f"; both keep one [ ; {text} ] [ ; moved ]")
            self.refused(f"; both keep one [ ; moved ] [ ; {text} ]")
            self.refused(f"not keep one 0 [ ; {text} ] ; moved")

    def test_no_end(self):
        for text in ("", " ", ";", "; ", ";;", "; ; moved", "moved", "fit one", "fit one ;", "fit one moved", ";moved"):
            self.refused(text)

    def test_blanks_and_other_signs(self):
        for good in ("fit one ; moved", "; both start one -3 [ ; moved ] [ low one two ; ring one ]"):
            self.assertEqual(show_tree(read_tree(good)), good)
            for bad in (" " + good, good + " ", good + "\n", "\n" + good, good + "\t", good.replace(" ", "  "), good + " ]"):
                self.refused(bad)
            places = [place for place, sign in enumerate(good) if sign == " "]
            for place in places:
                for sign in ("", "  ", "\n", "\t", " \n", "_"):
                    self.refused(good[:place] + sign + good[place + 1:])

    def test_words_left_out_told_twice_or_exchanged(self):
        good = "not start one -3 1 [ ; window two ] low one two ; both on one saw [ ; moved ] [ ; stock boards 3 less ]"
        words = good.split(" ")
        self.assertEqual(show_tree(read_tree(good)), good)
        for place in range(len(words)):
            self.refused(" ".join(words[:place] + words[place + 1:]))
            self.refused(" ".join(words[:place + 1] + words[place:]))
        for place in range(len(words) - 1):
            bent = words[:place] + [words[place + 1], words[place]] + words[place + 2:]
            if (words[place], words[place + 1]) not in (("one", "two"), ("one", "saw")):
                self.refused(" ".join(bent))

    def test_no_texts(self):
        for thing in (None, 0, 7, True, [], ["; moved"], (), ([], ("moved",)), {}, b"; moved", object(), 1.5):
            self.refused(thing)


if __name__ == "__main__":
    unittest.main()
