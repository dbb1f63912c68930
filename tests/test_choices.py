"""[2], [27], [28]: both sides of each choice, and that no schedule is left out by them."""

import inspect
import itertools
import unittest

from shopbound.choices import side_of
from shopbound.facts import Facts
from tests.samples import small_shop
from tests.slow import chance_facts, kept_schedules, lively_seeds, state_of


def choice_shop(**parts):
    """Steps of unlike counts of ways, in a job and in none."""
    new = {
        "benches": [("b", []), ("c", []), ("d", [])],
        "steps": [
            ("one", "k", [("b", 3), ("c", 7), ("d", 5)]),
            ("two", "l", [("b", 2)]),
            ("zed", "k", [("b", 1)]),
            ("lone", "k", [("d", 4), ("b", 4)]),
        ],
        "jobs": [("j", 2, 18, False, ["one", "lone"])],
    }
    new.update(parts)
    return small_shop(**new)


class ChoiceCase(unittest.TestCase):
    def leads_to(self, facts, choice, side, **asked):
        """A side taken: what is asked is so, nothing else is other, and the facts handed in stay."""
        before = state_of(facts)
        new = side_of(facts, choice, side)
        self.assertEqual(state_of(facts), before)
        self.assertIsInstance(new, Facts)
        self.assertIsNot(new, facts)
        for key in ("orders", "noted"):
            before[key] = asked.pop(key, before[key])
        for step, (benches, first, last) in asked.items():
            before["steps"][step] = (benches, first, last, before["steps"][step][3])
        self.assertEqual(state_of(new), before)

    def leads_to_none(self, facts, choice):
        before = state_of(facts)
        for side in (0, 1):
            self.assertIsNone(side_of(facts, choice, side))
        self.assertEqual(state_of(facts), before)


class StartTest(ChoiceCase):
    def facts(self):
        facts = Facts(choice_shop(), 20)
        facts.set_window("two", 5, 9)
        return facts

    def test_side_0(self):
        for t, last in ((5, 4), (6, 5), (9, 8), (10, 9), (11, 9), (0, -1), (-3, -4), (10 ** 39, 9), (-10 ** 39, -10 ** 39 - 1)):
            self.leads_to(self.facts(), ("start", "two", t), 0, two=(["b"], 5, last))

    def test_side_1(self):
        for t, first in ((4, 5), (5, 5), (6, 6), (9, 9), (10, 10), (0, 5), (-3, 5), (10 ** 39, 10 ** 39), (-10 ** 39, 5)):
            self.leads_to(self.facts(), ("start", "two", t), 1, two=(["b"], first, 9))

    def test_no_bench_open_is_no_matter(self):
        facts = self.facts()
        facts.set_open("two", [])
        self.leads_to(facts, ("start", "two", 7), 0, two=([], 5, 6))
        self.leads_to(facts, ("start", "two", 7), 1, two=([], 7, 9))


class OnTest(ChoiceCase):
    def test_the_last_follows_the_least_length(self):
        facts = Facts(choice_shop(), 20)
        self.leads_to(facts, ("on", "one", "b"), 0, one=(["b"], 2, 15))
        self.leads_to(facts, ("on", "one", "b"), 1, one=(["c", "d"], 2, 13))
        self.leads_to(facts, ("on", "one", "c"), 0, one=(["c"], 2, 11))
        self.leads_to(facts, ("on", "one", "c"), 1, one=(["b", "d"], 2, 15))
        self.leads_to(facts, ("on", "one", "d"), 0, one=(["d"], 2, 13))
        self.leads_to(facts, ("on", "one", "d"), 1, one=(["b", "c"], 2, 15))

    def test_a_lesser_last_stays(self):
        for last, asked in ((14, 13), (13, 13), (12, 12), (-1, -1)):
            facts = Facts(choice_shop(), 20)
            facts.set_window("one", 3, last)
            self.leads_to(facts, ("on", "one", "d"), 0, one=(["d"], 3, asked))
            self.leads_to(facts, ("on", "one", "b"), 1, one=(["c", "d"], 3, asked))

    def test_the_only_one_open(self):
        facts = Facts(choice_shop(), 20)
        facts.set_window("two", 1, 30)
        self.leads_to(facts, ("on", "two", "b"), 0, two=(["b"], 1, 18))
        self.leads_to(facts, ("on", "two", "b"), 1, two=([], 1, 30))

    def test_benches_that_are_not_open(self):
        facts = Facts(choice_shop(), 20)
        facts.set_open("one", ["b", "d"])
        self.leads_to_none(facts, ("on", "one", "c"))
        self.leads_to_none(facts, ("on", "two", "c"))
        facts.set_open("two", [])
        self.leads_to_none(facts, ("on", "two", "b"))

    def test_a_held_step(self):
        facts = Facts(choice_shop(), 20, {"one": ("c", 5)})
        self.leads_to(facts, ("on", "one", "c"), 0, one=(["c"], 5, 5))
        self.leads_to(facts, ("on", "one", "c"), 1, one=([], 5, 5))
        self.leads_to_none(facts, ("on", "one", "b"))


class OrderTest(ChoiceCase):
    def test_pairs_that_meet(self):
        facts = Facts(choice_shop(), 20)
        for one, other in (("two", "zed"), ("zed", "two"), ("one", "lone"), ("lone", "one")):
            self.leads_to(facts, ("order", one, other), 0, orders=[(one, other)])
            self.leads_to(facts, ("order", one, other), 1, orders=[(other, one)])

    def test_pairs_that_do_not(self):
        facts = Facts(choice_shop(), 20)
        for one, other in (("one", "two"), ("zed", "lone"), ("two", "two"), ("one", "one")):
            self.leads_to_none(facts, ("order", one, other))

    def test_pairs_that_meet_only_by_their_open_benches(self):
        facts = Facts(choice_shop(), 20)
        facts.set_open("one", ["b"])
        self.leads_to(facts, ("order", "one", "two"), 0, orders=[("one", "two")])
        facts.set_open("one", ["d"])
        self.leads_to_none(facts, ("order", "one", "two"))

    def test_orders_come_behind_those_that_stand_there(self):
        facts = Facts(choice_shop(), 20)
        facts.put_order("two", "zed")
        self.leads_to(facts, ("order", "one", "lone"), 0, orders=[("two", "zed"), ("one", "lone")])
        self.leads_to(facts, ("order", "two", "zed"), 1, orders=[("two", "zed"), ("zed", "two")])

    def test_an_order_that_stands_there_already(self):
        facts = Facts(choice_shop(), 20)
        facts.put_order("two", "zed")
        facts.put_order("lone", "one")
        self.leads_to(facts, ("order", "two", "zed"), 0)
        self.leads_to(facts, ("order", "zed", "two"), 1)

    def test_a_known_order_is_put_too(self):
        facts = Facts(choice_shop(links=[("two", "zed", 2)]), 20)
        self.leads_to(facts, ("order", "two", "zed"), 0, orders=[("two", "zed")])
        self.leads_to(facts, ("order", "two", "zed"), 1, orders=[("zed", "two")])


class KeepTest(ChoiceCase):
    def facts(self, place, first=4, last=9):
        facts = Facts(choice_shop(), 20, None, {"one": place, "two": ("b", 1)}, 1)
        facts.set_open("one", ["b", "c"])
        facts.set_window("one", first, last)
        return facts

    def test_a_kept_step(self):
        for start in (4, 5, 9):
            for bench in ("b", "c"):
                self.leads_to(self.facts((bench, start)), ("keep", "one"), 0, one=([bench], start, start))
                self.leads_to(self.facts((bench, start)), ("keep", "one"), 1, noted=["one"])

    def test_a_kept_bench_that_is_not_open(self):
        for bench in ("d", "mill", "", "B"):
            self.leads_to(self.facts((bench, 6)), ("keep", "one"), 0, one=([], 6, 6))
            self.leads_to(self.facts((bench, 6)), ("keep", "one"), 1, noted=["one"])

    def test_a_kept_start_before_the_first_or_behind_the_last(self):
        for start in (3, 10, -1, 10 ** 30):
            self.leads_to(self.facts(("b", start)), ("keep", "one"), 0, one=([], start, start))
            self.leads_to(self.facts(("b", start)), ("keep", "one"), 1, noted=["one"])

    def test_the_end_mark_is_no_matter(self):
        self.leads_to(self.facts(("b", 30), 0, 40), ("keep", "one"), 0, one=(["b"], 30, 30))

    def test_notes_come_behind_those_that_stand_there(self):
        facts = self.facts(("b", 6))
        facts.put_note("two")
        self.leads_to(facts, ("keep", "one"), 1, noted=["two", "one"])

    def test_a_step_that_is_noted_already(self):
        facts = self.facts(("b", 6))
        facts.put_note("one")
        self.leads_to_none(facts, ("keep", "one"))

    def test_a_step_that_is_not_in_the_kept_plan(self):
        self.leads_to_none(self.facts(("b", 6)), ("keep", "zed"))
        self.leads_to_none(Facts(choice_shop(), 20, None, {}, 1), ("keep", "one"))

    def test_no_kept_plan(self):
        self.leads_to_none(Facts(choice_shop(), 20), ("keep", "one"))


def choices_of(parts):
    """Every choice of a small shop, some of which want what is never so."""
    steps = [row[0] for row in parts["steps"]]
    choices = [("keep", step) for step in steps]
    choices.extend(("start", step, t) for step in steps for t in range(-2, parts["horizon"] + 3))
    choices.extend(("on", step, bench) for step in steps for bench, _ in parts["benches"])
    choices.extend(("order", one, other) for one, other in itertools.product(steps, steps))
    return choices


class ManyTest(unittest.TestCase):
    def test_no_schedule_is_left_out_by_a_choice(self):
        seen = {"start": 0, "on": 0, "order": 0, "keep": 0}
        for seed in lively_seeds():
            for turn in range(4):
                parts, facts = chance_facts(seed, turn)
                going = [schedule for schedule in kept_schedules(seed) if facts.goes(schedule)]
                if not going:
                    continue
                for choice in choices_of(parts):
                    sides = [side_of(facts, choice, side) for side in (0, 1)]
                    if None in sides:
                        self.assertEqual(sides, [None, None])
                        continue
                    for schedule in going:
                        self.assertTrue(any(side.goes(schedule) for side in sides), (seed, turn, choice, schedule))
                        seen[choice[0]] += 1
        self.assertGreater(min(seen.values()), 100)

    def test_a_side_lets_none_in(self):
        for seed in lively_seeds()[:40]:
            parts, facts = chance_facts(seed, 0)
            staying = [schedule for schedule in kept_schedules(seed) if not facts.goes(schedule)]
            for choice in choices_of(parts):
                for side in (0, 1):
                    new = side_of(facts, choice, side)
                    if new is not None:
                        self.assertFalse(any(new.goes(schedule) for schedule in staying))


class InterfaceTest(unittest.TestCase):
    def test_interface(self):
        self.assertEqual(list(inspect.signature(side_of).parameters), ["facts", "choice", "side"])

    def test_sides_are_apart(self):
        facts = Facts(choice_shop(), 20, None, {"one": ("b", 4)}, 1)
        for choice in (("start", "one", 4), ("on", "one", "b"), ("order", "one", "lone"), ("keep", "one")):
            kept = tuple(choice)
            left = side_of(facts, choice, 0)
            right = side_of(facts, choice, 1)
            self.assertEqual(choice, kept)
            before = [state_of(facts), state_of(right)]
            left.set_window("zed", 3, 3)
            left.set_open("lone", ["b"])
            left.put_order("zed", "two")
            left.put_note("two")
            self.assertEqual([state_of(facts), state_of(right)], before)


if __name__ == "__main__":
    unittest.main()
