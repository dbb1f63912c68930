"""[2], [3], [44], [45]: the desk, its rows and answers, and what it refuses."""

import inspect
import random
import unittest

from shopbound.bound import bound_of
from shopbound.builders import made_better, row_by
from shopbound.days import planned_anew
from shopbound.desk import Desk
from shopbound.errors import Gone, NoName, NoPlan, NoRow, NoSay, NoShop, NoTree, ShopError
from shopbound.plantexts import shown_plan
from shopbound.schedules import length_of
from shopbound.shopreader import read_shop
from shopbound.shopwriter import shown_shop
from shopbound.treetexts import show_tree
from tests.roomy import roomy_parts, setup_shop
from tests.samples import shop_of

TEXT = "horizon 20; bench b; bench c; step one k b/3; step two k b/4"
RING = "horizon 9; bench b; step one k b/3; step two k b/3; link one two 0; link two one 0"
PLAN = "one b 0; two b 3"
LOOSE = "one b 5; two b 9"
TREE = "; window one"


def said(*rows):
    """A desk that was told rows."""
    desk = Desk()
    for row in rows:
        desk.say(row)
    return desk


def ready():
    """A desk with shops and plans."""
    return said(f"shop s {TEXT}", f"plan p {PLAN}", f"shop ring {RING}", f"plan loose {LOOSE}", "plan none ")


class DeskCase(unittest.TestCase):
    def says(self, desk, row, answer):
        told = desk.say(row)
        self.assertIsInstance(told, str)
        self.assertEqual(told, answer, row)

    def all_of(self, desk):
        """All that a desk tells of what it keeps."""
        told = {"tree": desk.say("tree")}
        for row in ("shown", "told"):
            for name in ("s", "p", "ring", "loose", "none", "new", "q", "a", "b"):
                try:
                    told[row, name] = desk.say(f"{row} {name}")
                except NoName:
                    told[row, name] = None
        return told

    def refuses(self, desk, row, error):
        before = self.all_of(desk)
        with self.assertRaises(ShopError, msg=repr(row)) as caught:
            desk.say(row)
        self.assertIs(type(caught.exception), error, repr(row))
        self.assertEqual(self.all_of(desk), before)
        return caught.exception


class KeptTest(DeskCase):
    def test_shops(self):
        desk = Desk()
        self.says(desk, f"shop s {TEXT}", "ok")
        self.says(desk, "shown s", TEXT)
        turned = "step one k b/3; bench b; horizon 9"
        self.says(desk, f"shop s {turned}", "ok")
        self.says(desk, "shown s", "horizon 9; bench b; step one k b/3")

    def test_every_row_of_a_shop(self):
        text = (
            "horizon 100; bench saw 10-20 30-40; bench oven; step cut wood saw/5; step bake clay oven/7 saw/9; "
            "job chair 2 90 in cut; job pot 0 100 of bake; setup saw wood clay 4; link cut bake 0; "
            "stock boards 3 10 cut-2 bake+1"
        )
        self.says(said(f"shop s {text}"), "shown s", text)

    def test_plans(self):
        desk = Desk()
        self.says(desk, f"plan p {PLAN}", "ok")
        self.says(desk, "told p", PLAN)
        self.says(desk, "plan p ", "ok")
        self.says(desk, "told p", "")
        self.says(desk, "plan p any where 99999999", "ok")
        self.says(desk, "told p", "any where 99999999")

    def test_shops_and_plans_have_names_apart(self):
        desk = said(f"shop a {TEXT}", f"plan a {PLAN}", f"plan b {LOOSE}")
        self.says(desk, "shown a", TEXT)
        self.says(desk, "told a", PLAN)
        self.says(desk, "look a a", "kept 7")
        self.refuses(desk, "shown b", NoName)

    def test_names_that_are_words_of_rows(self):
        desk = said(f"shop shop {TEXT}", f"plan tree {PLAN}")
        self.says(desk, "look shop tree", "kept 7")
        self.says(desk, "build shop told told", "7")
        self.says(desk, "told told", PLAN)

    def test_two_desks(self):
        one = ready()
        other = Desk()
        self.refuses(other, "shown s", NoName)
        one.say("bound s 400 q")
        self.says(other, "tree", "none")
        other.say("shop s horizon 9; bench b; step one k b/3")
        self.says(one, "shown s", TEXT)
        self.refuses(other, "told p", NoName)

    def test_names(self):
        self.assertEqual(str(inspect.signature(Desk)), "()")
        self.assertEqual(str(inspect.signature(Desk.say)), "(self, row)")


class LookTest(DeskCase):
    def test_kept(self):
        self.says(ready(), "look s p", "kept 7")
        self.says(ready(), "look s loose", "kept 13")

    def test_wishes_broken(self):
        desk = said(
            "shop s horizon 20; bench b 8-9; bench c; step one k b/3; step two k b/4 c/5; step six k c/1; "
            "job j 1 15 in one two; link one six 2; stock t 1 1 six-1 two+1"
        )
        for plan, answer in (
            ("", "step one"),
            ("one b 1; six c 10; two b 10; zed b 3", "step zed"),
            ("one c 1; six c 10; two b 10", "way one"),
            ("one b 1; six c 10; two b 17", "way two"),
            ("one b 0; six c 10; two b 10", "job one"),
            ("one b 1; six c 10; two b 5", "break two"),
            ("one b 1; six c 10; two b 2", "bench one two"),
            ("one b 5; six c 15; two c 1", "apart one two"),
            ("one b 1; six c 4; two c 5", "link one six"),
            ("one b 1; six c 14; two c 4", "stock t 9"),
            ("one b 1; six c 6; two c 7", "kept 12"),
        ):
            desk.say(f"plan p {plan}")
            self.says(desk, "look s p", answer)


class BuildTest(DeskCase):
    def test_each_rule(self):
        shop = shop_of(roomy_parts(5))
        for seed in range(40):
            shop = shop_of(roomy_parts(seed))
            desk = said("shop s " + shown_shop(shop).replace("\n", "; "), "plan q one b 77")
            for rule in ("told", "long", "due", "slack"):
                for tries in (None, 0, 3, 200):
                    row = row_by(shop, rule)
                    schedule = row and made_better(shop, row, tries or 0)[1]
                    asked = f"build s {rule} q" if tries is None else f"better s {rule} {tries} q"
                    before = desk.say("told q")
                    self.says(desk, asked, "none" if schedule is None else str(length_of(shop, schedule)))
                    self.says(desk, "told q", before if schedule is None else shown_plan(schedule))

    def test_none(self):
        desk = ready()
        self.says(desk, "build ring told q", "none")
        self.refuses(desk, "told q", NoName)
        self.says(desk, "better ring told 200 p", "none")
        self.says(desk, "told p", PLAN)

    def test_an_elder_plan_is_taken_over(self):
        desk = ready()
        self.says(desk, "build s told loose", "7")
        self.says(desk, "told loose", PLAN)


class BoundTest(DeskCase):
    def test_best(self):
        desk = ready()
        self.says(desk, "tree", "none")
        self.says(desk, "bound s 400 loose", "best 7")
        told = bound_of(read_shop(TEXT.replace("; ", "\n")), 400)
        self.says(desk, "told loose", shown_plan(told[1]))
        self.says(desk, "tree", show_tree(told[2]))
        self.says(desk, "check s 6 " + desk.say("tree"), "shut")
        self.says(desk, "check s 7 " + desk.say("tree"), "not")

    def test_none(self):
        desk = ready()
        self.says(desk, "bound ring 0 p", "none")
        self.says(desk, "told p", PLAN)
        self.says(desk, "check ring 9 " + desk.say("tree"), "shut")
        self.says(desk, "bound ring 0 q", "none")
        self.refuses(desk, "told q", NoName)

    def test_open(self):
        shop = setup_shop(6, 0)
        desk = said("shop s " + shown_shop(shop).replace("\n", "; "))
        told = bound_of(shop, 0)
        self.assertEqual(told[0], "open")
        self.says(desk, "bound s 0 q", f"open {length_of(shop, told[1])} {told[2]}")
        self.says(desk, "told q", shown_plan(told[1]))
        self.says(desk, f"check s {told[2] - 1} " + desk.say("tree"), "shut")

    def test_open_without_a_schedule(self):
        found = 0
        for seed in range(250):
            shop = shop_of(roomy_parts(seed, most_steps=6, most_ways=2, horizon=9))
            told = bound_of(shop, 0)
            if told[0] == "open" and told[1] is None:
                found += 1
                desk = said("shop s " + shown_shop(shop).replace("\n", "; "), "plan p one b 77")
                self.says(desk, "bound s 0 p", f"open - {told[2]}")
                self.says(desk, "told p", "one b 77")
                if found == 2:
                    break
        self.assertGreater(found, 0)


class CheckTest(DeskCase):
    def test_good_trees(self):
        desk = ready()
        self.says(desk, "check s 2 ; window one", "shut")
        self.says(desk, "check s 3 ; window one", "not")
        self.says(desk, "check s 0 ; window one", "shut")
        self.says(desk, "check s 6 ; stretch 0 6 b", "shut")
        self.says(desk, "check s 7 ; stretch 0 7 b", "not")
        self.says(desk, "check s 20 ; moved", "not")
        self.says(desk, "check s 6 ; both order one two [ low one two ; window two ] [ low two one ; window one ]", "shut")
        self.says(desk, "check s 7 ; both order one two [ low one two ; window two ] [ low two one ; window one ]", "not")
        self.says(desk, "check ring 9 ; ring one two", "shut")
        self.says(desk, "tree", "none")

    def test_no_trees(self):
        desk = ready()
        for text in ("", "window one", "; window", "; window zed", "; stretch 0 6 x", "; stretch 0 21 b", "; window one ]",
                     "; stock t 0 less", "; together j 0 1", "fit one", ";", "x", "; both order one two [ ; moved ]"):
            self.refuses(desk, f"check s 5 {text}", NoTree)


class DayTest(DeskCase):
    def test_least(self):
        desk = ready()
        self.says(desk, "day s p 0 20 60 q", "least")
        self.says(desk, "told q", PLAN)
        self.says(desk, "tree", "none")
        desk.say("plan p one b 0; two b 2")
        self.says(desk, "day s p 1 20 60 q", "least two")
        self.says(desk, "told q", "one b 0; two b 3")
        self.assertNotEqual(desk.say("tree"), "none")

    def test_several_are_moved_in_the_shops_order(self):
        desk = said("shop s horizon 20; bench b; bench c; step two k b/3; step one k b/3", "plan p one c 1; two c 1")
        self.says(desk, "day s p 0 20 60 p", "least two one")
        self.says(desk, "look s p", "kept 6")

    def test_none(self):
        desk = ready()
        self.says(desk, "day s p 0 6 60 p", "none")
        self.says(desk, "told p", PLAN)
        self.says(desk, "check s 6 " + desk.say("tree"), "shut")

    def test_a_tree_that_is_none_stands_in_the_stead_of_the_elder_one(self):
        desk = ready()
        desk.say("bound s 400 q")
        self.assertNotEqual(desk.say("tree"), "none")
        desk.say("day s p 0 20 60 q")
        self.says(desk, "tree", "none")

    def test_open(self):
        shop = setup_shop(6, 0)
        desk = said("shop s " + shown_shop(shop).replace("\n", "; "), "plan p ", "plan q one b 1")
        self.says(desk, "day s p 0 29 0 q", "open 0")
        self.says(desk, "told q", "one b 1")

    def test_gone(self):
        desk = ready()
        desk.say("plan a one c 0; two b 3")
        self.assertEqual(self.refuses(desk, "day s a 1 20 60 a", Gone).step, "one")
        desk.say("plan b stranger b 0")
        self.assertEqual(self.refuses(desk, "day s b 1 20 60 b", Gone).step, "stranger")
        self.says(desk, "day s b 0 20 60 b", "least")

    def test_beside_planned_anew(self):
        words = set()
        for seed in range(40):
            chance = random.Random(seed)
            parts = roomy_parts(seed, most_steps=3, horizon=7)
            shop = shop_of(parts)
            plan = {step: (chance.choice(ways)[0], chance.randint(0, 6)) for step, _, ways in parts["steps"]}
            desk = said("shop s " + shown_shop(shop).replace("\n", "; "), "plan p " + shown_plan(plan))
            for now, limit, most in ((0, 7, 400), (1, 6, 0), (7, 7, 5)):
                told = planned_anew(shop, plan, now, limit, most)
                answer = {"least": lambda: " ".join(["least"] + told[2]), "none": lambda: "none", "open": lambda: f"open {told[2]}"}
                self.says(desk, f"day s p {now} {limit} {most} q", answer[told[0]]())
                self.says(desk, "tree", "none" if told[-1] is None else show_tree(told[-1]))
                if told[0] == "least":
                    self.says(desk, "told q", shown_plan(told[1]))
                words.add(told[0])
        self.assertEqual(words, {"least", "none"} | words)


class RefusedTest(DeskCase):
    GOOD = (
        f"shop s {TEXT}", f"plan p {PLAN}", "shown s", "told p", "look s p", "build s told q", "better s long 7 q",
        "bound s 9 q", "tree", f"check s 5 {TREE}", "day s p 0 20 9 q",
    )

    # how many words stand ahead of the TEXT of such a row, and what refuses a TEXT with a blank too many
    TEXTS = {"shop": (2, NoRow), "plan": (2, NoPlan), "check": (3, NoTree)}

    def test_blanks_more_ahead_and_behind(self):
        desk = ready()
        for row in self.GOOD:
            ready().say(row)
            words_ahead, error = self.TEXTS.get(row.split(" ")[0], (len(row), NoSay))
            for bad in (" " + row, row.replace(" ", "  ") + " ", row.replace(" ", "  ", 1) + " "):
                self.refuses(desk, bad, NoSay)
            self.refuses(desk, row + " ", error)
            places = [place for place, sign in enumerate(row) if sign == " "]
            for blank, place in enumerate(places, start=1):
                self.refuses(desk, row[:place] + " " + row[place:], NoSay if blank < words_ahead else error)

    def test_blanks_more_in_the_text_of_a_shop(self):
        desk = ready()
        for text, row in (
            (" horizon 1; bench a; step a a a/1", 0), ("horizon  1; bench a; step a a a/1", 0), ("horizon 1 ; bench a", 0),
            ("horizon 1;  bench a; step a a a/1", 1), ("horizon 1; bench a ; step a a a/1", 1), ("horizon 1; ", 1),
            ("horizon 1; ; bench a", 1), ("horizon 1; bench a; step a a a/1 ", 2), ("horizon 1; bench a; step a a a/1; ", 3),
            (" ", 0), ("  ", 0), ("; ", 0), (" ; ", 0),
        ):
            for name in ("s", "new"):
                self.assertEqual(self.refuses(desk, f"shop {name} {text}", NoRow).row, row, repr(text))

    def test_blanks_more_in_the_text_of_a_plan(self):
        desk = ready()
        for text in (" a b 1", "a  b 1", "a b  1", "a b 1 ", "a b 1; ", "a b 1;  c b 2", "a b 1 ; c b 2", "a b 1; ; c b 2",
                     "a b 1; c b 2 ", " ", "  ", "; ", " ; "):
            for name in ("p", "new"):
                self.refuses(desk, f"plan {name} {text}", NoPlan)

    def test_blanks_more_in_the_text_of_a_tree(self):
        desk = ready()
        for text in (" ; window one", ";  window one", "; window  one", "; window one ", "fit one  ; window one",
                     "fit  one ; window one", "; ring one ", "; ring one  two", "; stretch 0 6 b ", "; stretch 0 6  b",
                     "; both keep one [  ; moved ] [ ; moved ]", "; both keep one [ ; moved ] [ ; moved ] ", " ", "  ", "; "):
            self.refuses(desk, f"check s 0 {text}", NoTree)

    def test_line_feeds_and_tabs(self):
        desk = ready()
        for row in self.GOOD:
            for bad in (row + "\n", "\n" + row, row.replace(" ", "\n", 1) + "\n", row[:4] + "\n" + row[4:], row + " \n"):
                self.refuses(desk, bad, NoSay)
        self.refuses(desk, "shown\ts", NoSay)
        self.refuses(desk, "shown s\t", NoSay)
        self.refuses(desk, "plan p one\tb 3", NoPlan)

    def test_no_rows(self):
        desk = ready()
        for row in (
            "", " ", "s", "Shop s", "shops", "shop", "shop ", "shop s", f"shop S {TEXT}", f"shop ninechars {TEXT}",
            f"shop s1 {TEXT}", "plan", "plan p", "plan  one b 0", "plan P one b 0", "shown", "shown S", "shown s s", "shown ",
            "told", "told p p", "told 1", "look", "look s", "look s p p", "look S p", "look s P", "build", "build s",
            "build s told", "build s best q", "build s Told q", "build s told q q", "build s told Q", "build told s q",
            "better s told q", "better s told x q", "better s told 7", "better s told 7 q q", "better s told q 7",
            "bound s q", "bound s 7", "bound s 7 q q", "bound s 7 Q", "bound s q 7", "bound 7 s q", "tree s", "tree tree",
            "check", "check s", "check s 5", f"check s {TREE}", f"check s x {TREE}", f"check S 5 {TREE}",
            "day s p 0 20 9", "day s p 0 20 q", "day s p 0 20 9 q q", "day s 0 20 9 q", "day s p x 20 9 q",
            "day s p 0 x 9 q", "day s p 0 20 x q", "day s p 0 20 9 Q", "say s", "help",
        ):
            self.refuses(desk, row, NoSay)

    def test_numbers(self):
        desk = ready()
        for bad in ("401", "1000", "00", "07", "-1", "-0", "+7", "7.0", "10000000", "00000007", "1e2", "", "x", "7,"):
            self.refuses(desk, f"bound s {bad} q", NoSay)
            self.refuses(desk, f"day s p 0 20 {bad} q", NoSay)
            self.refuses(desk, f"better s told {bad} q", NoSay)
        for bad in ("201", "400"):
            self.refuses(desk, f"better s told {bad} q", NoSay)
        for bad in ("00", "07", "-1", "+7", "7.0", "10000000", "", "x"):
            self.refuses(desk, f"check s {bad} {TREE}", NoSay)
            self.refuses(desk, f"day s p {bad} 20 9 q", NoSay)
            self.refuses(desk, f"day s p 0 {bad} 9 q", NoSay)
        self.says(desk, "better s told 200 q", "7")
        self.says(desk, "bound s 400 q", "best 7")
        self.says(desk, "day s p 0 20 400 q", "least")

    def test_moments_above_the_horizon(self):
        desk = ready()
        self.refuses(desk, f"check s 21 {TREE}", NoSay)
        self.refuses(desk, "day s p 21 20 9 q", NoSay)
        self.refuses(desk, "day s p 0 21 9 q", NoSay)
        self.refuses(desk, "day s p 0 9999999 9 q", NoSay)
        self.says(desk, f"check s 20 {TREE}", "not")
        self.says(desk, "day s p 20 20 9 q", "least")

    def test_names_by_which_nothing_stands(self):
        desk = ready()
        for row in ("shown p", "shown new", "told s", "told new", "look new p", "look s new", "look p s", "look new new",
                    "build new told q", "better new told 7 q", "bound new 7 q", f"check new 5 {TREE}", "day new p 0 20 9 q",
                    "day s new 0 20 9 q", "day p s 0 20 9 q"):
            self.refuses(desk, row, NoName)

    def test_texts_that_are_none(self):
        desk = ready()
        self.assertEqual(self.refuses(desk, "shop new ", NoRow).row, 0)
        self.assertEqual(self.refuses(desk, "shop new horizon 5; bench", NoRow).row, 1)
        self.assertEqual(self.refuses(desk, "shop new bench b; step one k b/3", NoRow).row, 2)
        self.assertEqual(self.refuses(desk, "shop s horizon 5; bench b; step one k b/6", NoShop).part, "steps")
        self.refuses(desk, "shop new horizon 5;bench b", NoRow)
        self.refuses(desk, "plan new one b", NoPlan)
        self.refuses(desk, "plan p two b 3; one b 0", NoPlan)
        self.refuses(desk, "plan p one b 0;", NoPlan)
        self.refuses(desk, "check s 5 ", NoTree)

    def test_of_two_wrongs_the_one_named_first(self):
        desk = ready()
        self.refuses(desk, "bound new 401 q", NoSay)
        self.refuses(desk, "build new best q", NoSay)
        self.refuses(desk, "look new P", NoSay)
        self.refuses(desk, "check new 10000000 fit", NoSay)
        self.refuses(desk, "check new  5 fit", NoSay)
        self.refuses(desk, "check new 5  fit", NoName)
        self.refuses(desk, "check s 21  fit", NoSay)
        self.refuses(desk, "check new 21 fit", NoName)
        self.refuses(desk, "day s new 21 20 9 q", NoName)
        self.refuses(desk, "day new new 21 21 9 q", NoName)
        self.refuses(desk, "check new 5 fit", NoName)
        self.refuses(desk, "check s 21 fit", NoSay)
        self.refuses(desk, "check s 20 fit", NoTree)
        desk.say("plan a stranger b 0")
        self.refuses(desk, "day s a 1 21 9 q", NoSay)
        self.refuses(desk, "day s a 21 20 9 q", NoSay)
        self.refuses(desk, "day s a 1 20 9 q", Gone)
        self.refuses(desk, "shop New horizon", NoSay)
        self.refuses(desk, "plan New one", NoSay)

    def test_no_texts(self):
        desk = ready()
        for thing in (None, 0, 7, True, [], ["tree"], ("tree",), {}, b"tree", object(), 1.5):
            self.refuses(desk, thing, NoSay)


class OwnTest(DeskCase):
    def test_asked_again_the_same_is_told(self):
        rows = ("look s p", "build s long q", "better s due 9 q", "bound s 400 q", "tree", f"check s 5 {TREE}", "day s p 1 20 9 q", "tree")
        desk = ready()
        first = [desk.say(row) for row in rows]
        self.assertEqual([desk.say(row) for row in rows], first)
        self.assertEqual([ready().say(row) for row in rows[:4]], first[:4])


if __name__ == "__main__":
    unittest.main()
