"""[2], [26], [28]: rows low, high and fit, and that no schedule is lost behind one."""

import inspect
import itertools
import unittest

from shopbound.facts import Facts
from shopbound.rows import behind_row
from tests.samples import small_shop
from tests.slow import chance_facts, kept_schedules, lively_seeds, slow_gap, slow_possible, state_of


def row_shop(**parts):
    """Two linked steps, one of them with a choice, and one by itself."""
    new = {
        "benches": [("b", [(4, 6)]), ("c", [(9, 10)])],
        "steps": [("one", "k", [("b", 3), ("c", 5)]), ("two", "l", [("b", 2)]), ("zed", "k", [("c", 1)])],
        "links": [("one", "two", 2)],
    }
    new.update(parts)
    return small_shop(**new)


def window(facts, step):
    """The first and the last of a step."""
    return (facts.first_of(step), facts.last_of(step))


class RowCase(unittest.TestCase):
    def only_window(self, facts, row, step, asked):
        """A row done: one step's window is as asked, nothing else is other, and the facts handed in stay."""
        before = state_of(facts)
        new = behind_row(facts, row)
        self.assertEqual(state_of(facts), before)
        self.assertIsInstance(new, Facts)
        self.assertIsNot(new, facts)
        after = state_of(new)
        self.assertEqual(window(new, step), asked)
        ready = before["steps"][step]
        before["steps"][step] = (ready[0],) + asked + (ready[3],)
        self.assertEqual(after, before)

    def leads_to_none(self, facts, row):
        before = state_of(facts)
        self.assertIsNone(behind_row(facts, row))
        self.assertEqual(state_of(facts), before)


class LowTest(RowCase):
    def test_the_others_first_grows(self):
        self.only_window(Facts(row_shop(), 20), ("low", "one", "two"), "two", (5, 18))
        facts = Facts(row_shop(), 20)
        facts.set_window("one", 4, 5)
        self.only_window(facts, ("low", "one", "two"), "two", (9, 18))

    def test_it_stays_where_it_is_greater(self):
        for first, asked in ((4, 5), (5, 5), (6, 6), (17, 17)):
            facts = Facts(row_shop(), 20)
            facts.set_window("two", first, 18)
            self.only_window(facts, ("low", "one", "two"), "two", (asked, 18))

    def test_the_least_length_over_open_benches(self):
        facts = Facts(row_shop(), 20)
        facts.set_open("one", ["c"])
        self.only_window(facts, ("low", "one", "two"), "two", (7, 18))

    def test_a_setup_counts(self):
        facts = Facts(row_shop(setups=[("b", "k", "l", 4)]), 20)
        self.only_window(facts, ("low", "one", "two"), "two", (5, 18))
        facts.set_open("one", ["b"])
        self.only_window(facts, ("low", "one", "two"), "two", (7, 18))

    def test_an_order_put(self):
        facts = Facts(row_shop(), 20)
        facts.put_order("two", "zed")
        self.only_window(facts, ("low", "two", "zed"), "zed", (2, 19))

    def test_beyond_the_last(self):
        facts = Facts(row_shop(), 20)
        facts.set_window("one", 30, 3)
        self.only_window(facts, ("low", "one", "two"), "two", (35, 18))

    def test_no_bench_open_to_the_other_is_no_matter(self):
        facts = Facts(row_shop(), 20)
        facts.set_open("two", [])
        self.only_window(facts, ("low", "one", "two"), "two", (5, 18))

    def test_not_ahead(self):
        facts = Facts(row_shop(), 20)
        for one, other in (("two", "one"), ("one", "zed"), ("zed", "two"), ("one", "one")):
            self.leads_to_none(facts, ("low", one, other))

    def test_no_bench_open(self):
        facts = Facts(row_shop(), 20)
        facts.set_open("one", [])
        self.leads_to_none(facts, ("low", "one", "two"))


class HighTest(RowCase):
    def test_the_ones_last_sinks(self):
        self.only_window(Facts(row_shop(), 20), ("high", "one", "two"), "one", (0, 13))
        facts = Facts(row_shop(), 20)
        facts.set_window("two", 3, 4)
        self.only_window(facts, ("high", "one", "two"), "one", (0, -1))

    def test_it_stays_where_it_is_lesser(self):
        for last, asked in ((14, 13), (13, 13), (12, 12), (-4, -4)):
            facts = Facts(row_shop(), 20)
            facts.set_window("one", 1, last)
            self.only_window(facts, ("high", "one", "two"), "one", (1, asked))

    def test_the_least_length_over_open_benches(self):
        facts = Facts(row_shop(), 20)
        facts.set_open("one", ["c"])
        self.only_window(facts, ("high", "one", "two"), "one", (0, 11))

    def test_a_setup_counts(self):
        facts = Facts(row_shop(setups=[("b", "k", "l", 4)]), 20)
        self.only_window(facts, ("high", "one", "two"), "one", (0, 13))
        facts.set_open("one", ["b"])
        self.only_window(facts, ("high", "one", "two"), "one", (0, 11))

    def test_an_order_put(self):
        facts = Facts(row_shop(), 20)
        facts.put_order("two", "zed")
        self.only_window(facts, ("high", "two", "zed"), "two", (0, 17))

    def test_no_bench_open_to_the_other_is_no_matter(self):
        facts = Facts(row_shop(), 20)
        facts.set_open("two", [])
        self.only_window(facts, ("high", "one", "two"), "one", (0, 13))

    def test_not_ahead(self):
        facts = Facts(row_shop(), 20)
        for one, other in (("two", "one"), ("one", "zed"), ("zed", "two"), ("two", "two")):
            self.leads_to_none(facts, ("high", one, other))

    def test_no_bench_open(self):
        facts = Facts(row_shop(), 20)
        facts.set_open("one", [])
        self.leads_to_none(facts, ("high", "one", "two"))


class FitTest(RowCase):
    def test_both_ends_come_nearer(self):
        facts = Facts(row_shop(), 20)
        facts.set_window("two", 3, 30)
        self.only_window(facts, ("fit", "two"), "two", (6, 18))
        facts.set_window("two", 0, 5)
        self.only_window(facts, ("fit", "two"), "two", (0, 2))
        facts.set_window("two", 3, 6)
        self.only_window(facts, ("fit", "two"), "two", (6, 6))

    def test_over_all_open_benches(self):
        facts = Facts(row_shop(), 20)
        facts.set_window("one", 3, 8)
        self.only_window(facts, ("fit", "one"), "one", (3, 8))
        facts.set_open("one", ["c"])
        self.only_window(facts, ("fit", "one"), "one", (3, 4))
        facts.set_open("one", ["b"])
        self.only_window(facts, ("fit", "one"), "one", (6, 8))

    def test_nothing_changes(self):
        self.only_window(Facts(row_shop(), 20), ("fit", "zed"), "zed", (0, 19))
        self.only_window(Facts(row_shop(), 20), ("fit", "two"), "two", (0, 18))

    def test_a_noted_step(self):
        facts = Facts(row_shop(), 20, None, {"zed": ("c", 0), "two": ("b", 18)}, 2)
        facts.put_note("zed")
        facts.put_note("two")
        self.only_window(facts, ("fit", "zed"), "zed", (1, 19))
        self.only_window(facts, ("fit", "two"), "two", (0, 17))

    def test_no_possible_start(self):
        facts = Facts(row_shop(), 20)
        facts.set_window("two", 3, 5)
        self.leads_to_none(facts, ("fit", "two"))
        facts.set_window("two", 7, 6)
        self.leads_to_none(facts, ("fit", "two"))
        facts.set_open("one", [])
        self.leads_to_none(facts, ("fit", "one"))
        self.leads_to_none(Facts(row_shop(), 1), ("fit", "two"))


class ManyTest(unittest.TestCase):
    def rows_of(self, parts):
        steps = [row[0] for row in parts["steps"]]
        rows = [("fit", step) for step in steps]
        for one, other in itertools.permutations(steps, 2):
            rows.extend([("low", one, other), ("high", one, other)])
        return rows

    def asked(self, parts, facts, row):
        """The step that a row changes and its new window, or None, by the words."""
        if row[0] == "fit":
            starts = [start for _, start in slow_possible(parts, facts, row[1])]
            return (row[1], min(starts), max(starts)) if starts else None
        _, one, other = row
        if not facts.is_ahead(one, other) or not facts.open_to(one):
            return None
        lengths = dict([ways for name, _, ways in parts["steps"] if name == one][0])
        least = min(lengths[bench] for bench in facts.open_to(one))
        gap = slow_gap(parts, facts, one, other)
        if row[0] == "low":
            return (other, max(facts.first_of(other), facts.first_of(one) + least + gap), facts.last_of(other))
        return (one, facts.first_of(one), min(facts.last_of(one), facts.last_of(other) - least - gap))

    def test_beside_the_words_over_many_small_shops(self):
        seen = {"low": 0, "high": 0, "fit": 0, "none": 0}
        for seed in range(150):
            for turn in range(3):
                parts, facts = chance_facts(seed, turn)
                for row in self.rows_of(parts):
                    asked = self.asked(parts, facts, row)
                    new = behind_row(facts, row)
                    seen["none" if asked is None else row[0]] += 1
                    self.assertEqual(new is None, asked is None, (seed, turn, row))
                    if new is not None:
                        self.assertEqual((asked[0],) + window(new, asked[0]), asked, (seed, turn, row))
        self.assertGreater(min(seen.values()), 100)

    def test_no_schedule_is_lost_behind_a_row(self):
        kept = 0
        narrower = 0
        for seed in lively_seeds():
            for turn in range(8):
                parts, facts = chance_facts(seed, turn)
                going = [schedule for schedule in kept_schedules(seed) if facts.goes(schedule)]
                if not going:
                    continue
                for row in self.rows_of(parts):
                    new = behind_row(facts, row)
                    if new is None:
                        continue
                    narrower += state_of(new) != state_of(facts)
                    for schedule in going:
                        self.assertTrue(new.goes(schedule), (seed, turn, row, schedule))
                        kept += 1
        self.assertGreater(kept, 2000)
        self.assertGreater(narrower, 100)


class InterfaceTest(unittest.TestCase):
    def test_interface(self):
        self.assertEqual(list(inspect.signature(behind_row).parameters), ["facts", "row"])

    def test_rows_done_one_by_one_are_apart(self):
        facts = Facts(row_shop(), 20)
        row = ("low", "one", "two")
        new = behind_row(facts, row)
        self.assertEqual(row, ("low", "one", "two"))
        again = behind_row(new, ("high", "one", "two"))
        before = state_of(new)
        again.set_window("two", 0, 0)
        again.set_open("one", [])
        again.put_order("two", "zed")
        again.put_note("zed")
        facts.set_open("one", ["c"])
        facts.put_order("zed", "two")
        self.assertEqual(state_of(new), before)


if __name__ == "__main__":
    unittest.main()
