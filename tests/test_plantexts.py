"""[2], [17]: schedules written and read."""

import inspect
import itertools
import random
import re
import unittest

from shopbound.errors import NoPlan, NoRow, NoShop, ShopError
from shopbound.plantexts import read_plan, shown_plan
from tests.samples import copied, names

LONG = int("9" * 30)
ROW = re.compile(r"[a-z]{1,8} [a-z]{1,8} (0|[1-9][0-9]*)", re.ASCII)

WRITTEN = (
    ({}, ""),
    ({"cut": ("saw", 0)}, "cut saw 0"),
    ({"a": ("b", 7)}, "a b 7"),
    ({"abcdefgh": ("zyxwvuts", 10)}, "abcdefgh zyxwvuts 10"),
    ({"cut": ("cut", LONG)}, "cut cut " + "9" * 30),
    ({"cut": ("saw", 10 ** 39)}, "cut saw 1" + "0" * 39),
    ({"a": ("m", 3), "b": ("m", 1), "c": ("l", 2)}, "a m 3; b m 1; c l 2"),
    ({"c": ("l", 2), "a": ("m", 3), "b": ("m", 1)}, "a m 3; b m 1; c l 2"),
    ({"zz": ("m", 1), "z": ("m", 1), "abc": ("m", 1), "ab": ("m", 1)}, "ab m 1; abc m 1; z m 1; zz m 1"),
)

NONE = (
    # blanks
    " ", "  ", " cut saw 1", "cut saw 1 ", "cut  saw 1", "cut saw  1", "cut saw1", "cutsaw 1", "cutsaw1",
    "a m 1;  b m 1", "a m 1;b m 1", "a m 1 ; b m 1", "a m 1 b m 1", "a m 1; b m 1 ", "a m 1; b  m 1", " a m 1; b m 1",
    "cut\tsaw 1", "cut saw\t1", "a m 1;\tb m 1", "\tcut saw 1", "cut saw 1\t",
    # words
    "cut", "cut saw", "saw 1", "1", "cut saw 1 1", "cut saw saw 1", "cut 1 saw", "1 cut saw", "cut 1", "cut saw one",
    "a m 1; b m", "a m; b m 1", "a m 1; b m 1 1",
    # semicolons
    ";", "; ", "; ; ", "cut saw 1;", "cut saw 1; ", "; cut saw 1", ";cut saw 1", "a m 1; ; b m 1", "a m 1;; b m 1",
    "a m 1, b m 1", "a m 1: b m 1", "a m 1. b m 1", "a m 1; b m 1;", "a m 1; b m 1; ",
    # names
    "Cut saw 1", "cut Saw 1", "CUT SAW 1", "abcdefghi saw 1", "cut abcdefghi 1", " saw 1", "cut  1", "cut2 saw 1",
    "cut saw2 1", "cu_t saw 1", "cut sa-w 1", "cut' saw 1", "a m 1; B m 1",
    # steps out of order, or twice
    "b m 1; a m 1", "a m 1; a m 1", "a m 1; a l 2", "a m 1; c m 1; b m 1", "aa m 1; a m 1", "b m 1; ab m 1",
    "a m 1; b m 1; a m 1",
    # numbers
    "cut saw 00", "cut saw 01", "cut saw 0" + "9" * 30, "cut saw -1", "cut saw +1", "cut saw -0", "cut saw 1.0",
    "cut saw 1.", "cut saw .1", "cut saw 1e3", "cut saw 0x1", "cut saw 1_0", "cut saw 1,0", "cut saw ", "cut saw -",
    "cut saw - 1", "a m 1; b m 02",
    # line feeds
    "\n", "cut saw 1\n", "\ncut saw 1", "cut\nsaw 1", "cut saw\n1", "a m 1\nb m 1", "a m 1;\nb m 1", "a m 1; \nb m 1",
    "a m 1; b m 1\n", "cut\n saw 1",
    # figures and letters that are none of ours
    "cut saw \u0661", "cut saw \u00b2", "cut saw 1\u0661", "c\u00e9 saw 1", "cut s\u00e6 1", "cut\u00a0saw 1",
)


class WrittenTest(unittest.TestCase):
    def test_written(self):
        for plan, text in WRITTEN:
            self.assertEqual(shown_plan(plan), text)

    def test_read(self):
        for plan, text in WRITTEN:
            self.assertEqual(read_plan(text), plan)
            for place in read_plan(text).values():
                self.assertIs(type(place), tuple)
                self.assertIs(type(place[1]), int)

    def test_no_step_is_the_text_without_signs(self):
        self.assertEqual(shown_plan({}), "")
        self.assertEqual(read_plan(""), {})

    def test_many_steps_in_any_order(self):
        chance = random.Random(17)
        for many in (2, 3, 40):
            plan = {name: (chance.choice(names(8)), chance.choice([0, 9, 10, LONG])) for name in names(many)}
            text = shown_plan(plan)
            self.assertEqual(text, "; ".join(f"{name} {plan[name][0]} {plan[name][1]}" for name in sorted(plan)))
            for turn in range(5):
                mixed = dict(chance.sample(list(plan.items()), many))
                self.assertEqual(shown_plan(mixed), text)
                self.assertEqual(read_plan(text), mixed)

    def test_starts_of_each_count_of_figures(self):
        for figures in range(1, 41):
            for figure in "19":
                start = int(figure * figures)
                self.assertEqual(read_plan(f"cut saw {start}"), {"cut": ("saw", start)})
                self.assertEqual(shown_plan({"cut": ("saw", start)}), "cut saw " + figure * figures)

    def test_starts_of_very_many_figures_are_read(self):
        start = read_plan("cut saw " + "1" * 5000)["cut"][1]
        self.assertEqual(start, (10 ** 5000 - 1) // 9)


class RefusedTest(unittest.TestCase):
    def test_texts_that_write_none(self):
        for text in NONE:
            with self.subTest(text=text):
                with self.assertRaises(NoPlan):
                    read_plan(text)

    def test_what_is_no_text(self):
        things = (None, 0, 1, True, False, [], ["cut saw 1"], ("cut saw 1",), {}, {"cut": ("saw", 1)}, 1.5, b"cut saw 1")
        for thing in things:
            with self.subTest(thing=thing):
                with self.assertRaises(NoPlan):
                    read_plan(thing)

    def test_the_refusal_is_one_of_its_own(self):
        self.assertTrue(issubclass(NoPlan, ShopError))
        try:
            read_plan("cut")
        except ShopError as error:
            self.assertIsInstance(error, NoPlan)
            self.assertNotIsInstance(error, (NoShop, NoRow))

    def asked(self, text):
        """What a text is read to, by its form looked at another way; None where it writes none."""
        if text == "":
            return {}
        rows = text.split("; ")
        if not all(ROW.fullmatch(row) for row in rows):
            return None
        steps = [row.split(" ")[0] for row in rows]
        if steps != sorted(set(steps)):
            return None
        return {row.split(" ")[0]: (row.split(" ")[1], int(row.split(" ")[2])) for row in rows}

    def told(self, text):
        try:
            return read_plan(text)
        except NoPlan:
            return None

    def test_every_short_text_of_few_signs(self):
        good = 0
        for many in range(8):
            for signs in itertools.product("a 0;"[: 3 if many > 6 else 4], repeat=many):
                text = "".join(signs)
                self.assertEqual(self.told(text), self.asked(text), text)
                good += self.told(text) is not None
        self.assertGreater(good, 2)

    def test_good_texts_with_a_sign_spoilt(self):
        good = 0
        for text in ("cut saw 10", "a m 1; b m 20", "ab m 0; b m 3; ca l 405"):
            for place in range(len(text) + 1):
                for sign in "az09 ;\n\t-+.A":
                    for new in (text[:place] + sign + text[place:], text[:place] + sign + text[place + 1:]):
                        plan = self.told(new)
                        self.assertEqual(plan, self.asked(new), new)
                        if plan is not None:
                            good += 1
                            self.assertEqual(shown_plan(plan), new)
                shorter = text[:place] + text[place + 1:]
                self.assertEqual(self.told(shorter), self.asked(shorter), shorter)
        self.assertGreater(good, 50)


class OwnTest(unittest.TestCase):
    def test_what_is_handed_in_stays(self):
        plan = {"zed": ("m", 1), "one": ("l", 0)}
        kept = copied(plan)
        shown_plan(plan)
        self.assertEqual(plan, kept)
        self.assertEqual(list(plan), list(kept))

    def test_what_is_told_is_new(self):
        for text in ("", "a m 1; b m 2"):
            early = read_plan(text)
            later = read_plan(text)
            later["spoilt"] = ("m", 0)
            later.pop("a", None)
            self.assertEqual(shown_plan(early), text)
            self.assertEqual(shown_plan(read_plan(text)), text)

    def test_interface(self):
        self.assertEqual(list(inspect.signature(shown_plan).parameters), ["plan"])
        self.assertEqual(list(inspect.signature(read_plan).parameters), ["text"])
        self.assertIsInstance(shown_plan({}), str)
        self.assertIsInstance(read_plan(""), dict)


if __name__ == "__main__":
    unittest.main()
