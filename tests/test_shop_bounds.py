"""[4] to [10]: each part of a shop, at each bound the value at it and the one beyond it."""

import unittest

from tests.samples import changed, names, refused_part

NO_NAMES = ("", "abcdefghi", "Saw", "sa w", "saw\n", "sa1", None, 7, True, ["saw"], ("saw",), {})
NO_WHOLES = (True, False, "5", None, 5.0, [5], (5,))


class PartCase(unittest.TestCase):
    def takes(self, **parts):
        with self.subTest(takes=repr(parts)):
            self.assertIsNone(refused_part(changed(**parts)))

    def refuses(self, part, **parts):
        with self.subTest(refuses=repr(parts)):
            self.assertEqual(refused_part(changed(**parts)), part)


def bare(**parts):
    """Parts of a shop of one step, so that the horizon is free."""
    new = {"benches": [("b", [])], "steps": [("s", "k", [("b", 1)])]}
    new.update(dict.fromkeys(("jobs", "setups", "links", "stocks"), []))
    new.update(parts)
    return new


class HorizonTest(PartCase):
    def test_bounds(self):
        for horizon in (1, 2, 10 ** 6 - 1, 10 ** 6):
            self.takes(**bare(horizon=horizon))
        for horizon in (0, -1, -(10 ** 6), 10 ** 6 + 1, int("9" * 40)):
            self.refuses("horizon", **bare(horizon=horizon))

    def test_kinds(self):
        for horizon in (True, False, "5", "", None, 5.0, [], [5], (5,), {}):
            self.refuses("horizon", **bare(horizon=horizon))


class BenchesTest(PartCase):
    def benches(self, *rows):
        return {"benches": [("saw", []), ("oven", []), ("rack", [])] + list(rows)}

    def broken(self, *breaks):
        return self.benches(("new", list(breaks)))

    def test_how_many(self):
        self.takes(**self.benches(*[(name, []) for name in names(5)]))
        self.refuses("benches", **self.benches(*[(name, []) for name in names(6)]))
        self.refuses("benches", benches=[])
        self.takes(**bare(horizon=5))

    def test_names(self):
        for name in ("a", "abcdefgh", "cut"):
            self.takes(**self.benches((name, [])))
        for name in NO_NAMES:
            self.refuses("benches", **self.benches((name, [])))

    def test_names_are_unlike(self):
        self.refuses("benches", **self.benches(("saw", [])))
        self.refuses("benches", **self.benches(("new", []), ("new", [(1, 2)])))

    def test_how_many_breaks(self):
        many = [(k * 3, k * 3 + 1) for k in range(11)]
        self.takes(**self.broken())
        self.takes(**self.broken(*many[:1]))
        self.takes(**self.broken(*many[:10]))
        self.refuses("benches", **self.broken(*many))

    def test_bounds_of_a_break(self):
        for row in ((0, 1), (0, 100), (99, 100), (5, 6)):
            self.takes(**self.broken(row))
        for row in ((-1, 1), (0, 101), (100, 101), (-2, -1), (5, 5), (6, 5), (0, 0), (100, 100)):
            self.refuses("benches", **self.broken(row))

    def test_each_begins_behind_the_end_ahead_of_it(self):
        self.takes(**self.broken((1, 3), (4, 6), (7, 8)))
        self.refuses("benches", **self.broken((1, 3), (3, 6)))
        self.refuses("benches", **self.broken((1, 3), (2, 6)))
        self.refuses("benches", **self.broken((4, 6), (1, 3)))
        self.refuses("benches", **self.broken((1, 3), (4, 6), (6, 8)))
        self.refuses("benches", **self.broken((1, 9), (4, 6)))
        self.refuses("benches", **self.broken((1, 3), (1, 3)))

    def test_kinds(self):
        for thing in NO_WHOLES:
            self.refuses("benches", **self.broken((thing, 9)))
            self.refuses("benches", **self.broken((0, thing)))
        for row in ([1, 2], (1,), (1, 2, 3), (), None, "1-2", 5, {}):
            self.refuses("benches", **self.broken(row))
        for row in (["new", []], ("new",), ("new", [], []), ("new", ()), ("new", None), ("new", "ab"), None, "new"):
            self.refuses("benches", **self.benches(row))


class StepsTest(PartCase):
    def steps(self, *rows):
        old = [("cut", "k", [("saw", 1)]), ("bake", "k", [("saw", 1)]), ("glue", "k", [("saw", 1)])]
        return {"steps": old + [("saw", "k", [("rack", 1)])] + list(rows)}

    def way(self, *ways):
        benches = [(name, []) for name in ["saw", "oven", "rack"] + names(5)]
        return dict(self.steps(("new", "k", list(ways))), benches=benches)

    def test_how_many(self):
        self.takes(**self.steps(*[(name, "k", [("oven", 1)]) for name in names(36)]))
        self.refuses("steps", **self.steps(*[(name, "k", [("oven", 1)]) for name in names(37)]))
        self.refuses("steps", steps=[])
        self.takes(**bare(horizon=5))

    def test_names_and_kinds(self):
        for name in ("a", "abcdefgh", "oven", "chair"):
            self.takes(**self.steps((name, "k", [("oven", 1)])))
            self.takes(**self.steps(("new", name, [("oven", 1)])))
        for name in NO_NAMES:
            self.refuses("steps", **self.steps((name, "k", [("oven", 1)])))
            self.refuses("steps", **self.steps(("new", name, [("oven", 1)])))

    def test_names_are_unlike(self):
        self.refuses("steps", **self.steps(("cut", "l", [("oven", 2)])))
        self.refuses("steps", **self.steps(("saw", "k", [("rack", 1)])))

    def test_how_many_ways(self):
        ways = [(name, 1) for name in names(5)]
        self.refuses("steps", **self.way())
        self.takes(**self.way(*ways[:1]))
        self.takes(**self.way(*ways[:4]))
        self.refuses("steps", **self.way(*ways))

    def test_benches_of_ways(self):
        self.takes(**self.way(("rack", 1), ("oven", 1), ("saw", 1)))
        self.refuses("steps", **self.way(("oven", 1), ("oven", 2)))
        self.refuses("steps", **self.way(("oven", 1), ("saw", 1), ("oven", 1)))
        self.refuses("steps", **self.way(("mill", 1)))
        self.refuses("steps", **self.way(("cut", 1)))
        for name in NO_NAMES:
            self.refuses("steps", **self.way((name, 1)))

    def test_lengths(self):
        for length in (1, 2, 99, 100):
            self.takes(**self.way(("oven", length)))
        for length in (0, -1, 101, int("9" * 40)) + NO_WHOLES:
            self.refuses("steps", **self.way(("oven", length)))

    def test_kinds_of_rows(self):
        for row in (["oven", 1], ("oven",), ("oven", 1, 1), (), None, "oven", 5, {}):
            self.refuses("steps", **self.way(row))
        good = ("new", "k", [("oven", 1)])
        for row in (list(good), good[:2], good + (1,), ("new", "k", (("oven", 1),)), ("new", "k", {}), None, "new"):
            self.refuses("steps", **self.steps(row))


class JobsTest(PartCase):
    def steps(self):
        return [(name, "k", [("saw", 1)]) for name in ["cut", "bake", "glue", "saw"] + names(36)]

    def jobs(self, *rows):
        return {"steps": self.steps(), "jobs": list(rows)}

    def test_how_many(self):
        rows = [(name, 0, 1, False, [step[0]]) for name, step in zip(names(40), self.steps())]
        self.takes(**self.jobs())
        self.takes(**self.jobs(*rows[:1]))
        self.takes(**self.jobs(*rows))
        # a job more can only hold a step again, as there are no more than forty
        self.refuses("jobs", **self.jobs(*rows, ("more", 0, 1, False, ["cut"])))

    def test_names(self):
        for name in ("a", "abcdefgh", "saw", "cut", "boards"):
            self.takes(**self.jobs((name, 0, 1, False, ["cut"])))
        for name in NO_NAMES:
            self.refuses("jobs", **self.jobs((name, 0, 1, False, ["cut"])))

    def test_names_are_unlike(self):
        self.refuses("jobs", **self.jobs(("j", 0, 1, False, ["cut"]), ("j", 0, 1, False, ["bake"])))

    def test_moments(self):
        for moment in (0, 1, 99, 100):
            self.takes(**self.jobs(("j", moment, 50, False, ["cut"])))
            self.takes(**self.jobs(("j", 50, moment, True, ["cut"])))
        for moment in (-1, 101, int("9" * 40)) + NO_WHOLES:
            self.refuses("jobs", **self.jobs(("j", moment, 50, False, ["cut"])))
            self.refuses("jobs", **self.jobs(("j", 50, moment, True, ["cut"])))

    def test_ordered_is_a_truth(self):
        self.takes(**self.jobs(("j", 0, 1, True, ["cut"])))
        self.takes(**self.jobs(("j", 0, 1, False, ["cut"])))
        for thing in (0, 1, None, "in", "of", "True", [], [True], 1.0):
            self.refuses("jobs", **self.jobs(("j", 0, 1, thing, ["cut"])))

    def test_how_many_steps(self):
        every = [step[0] for step in self.steps()]
        self.refuses("jobs", **self.jobs(("j", 0, 1, True, [])))
        self.takes(**self.jobs(("j", 0, 1, True, every[:1])))
        self.takes(**self.jobs(("j", 0, 1, True, every)))
        self.takes(**self.jobs(("j", 0, 1, True, every[::-1])))

    def test_names_of_steps(self):
        self.refuses("jobs", **self.jobs(("j", 0, 1, True, ["oven"])))
        self.refuses("jobs", **self.jobs(("j", 0, 1, True, ["cut", "unknown"])))
        self.refuses("jobs", **self.jobs(("j", 0, 1, True, ["j"])))
        for name in NO_NAMES:
            self.refuses("jobs", **self.jobs(("j", 0, 1, True, [name])))
            self.refuses("jobs", **self.jobs(("j", 0, 1, True, ["cut", name])))

    def test_no_step_stands_twice(self):
        self.refuses("jobs", **self.jobs(("j", 0, 1, True, ["cut", "cut"])))
        self.refuses("jobs", **self.jobs(("j", 0, 1, True, ["cut", "bake", "cut"])))
        self.refuses("jobs", **self.jobs(("j", 0, 1, True, ["cut"]), ("i", 0, 1, True, ["cut"])))
        self.refuses("jobs", **self.jobs(("j", 0, 1, True, ["cut", "bake"]), ("i", 0, 1, True, ["glue", "bake"])))
        self.takes(**self.jobs(("j", 0, 1, True, ["cut", "bake"]), ("i", 0, 1, True, ["glue", "saw"])))

    def test_kinds_of_rows(self):
        good = ("j", 0, 1, True, ["cut"])
        for row in (list(good), good[:4], good + (1,), good[:4] + (("cut",),), good[:4] + ("cut",), None, "j", {}):
            self.refuses("jobs", **self.jobs(row))


class SetupsTest(PartCase):
    def test_how_many(self):
        rows = [("saw", name, "k", 1) for name in names(101)]
        self.takes(setups=[])
        self.takes(setups=rows[:100])
        self.refuses("setups", setups=rows)

    def test_names(self):
        self.takes(setups=[("oven", "steel", "glass", 1)])
        self.takes(setups=[("oven", "wood", "wood", 1)])
        self.refuses("setups", setups=[("mill", "wood", "clay", 1)])
        self.refuses("setups", setups=[("cut", "wood", "clay", 1)])
        for name in NO_NAMES:
            self.refuses("setups", setups=[(name, "wood", "clay", 1)])
            self.refuses("setups", setups=[("saw", name, "clay", 1)])
            self.refuses("setups", setups=[("saw", "wood", name, 1)])

    def test_moments(self):
        for moments in (1, 2, 99, 100):
            self.takes(setups=[("saw", "wood", "clay", moments)])
        for moments in (0, -1, 101, int("9" * 40)) + NO_WHOLES:
            self.refuses("setups", setups=[("saw", "wood", "clay", moments)])

    def test_no_two_of_one_bench_first_and_second(self):
        one = ("saw", "wood", "clay", 1)
        self.refuses("setups", setups=[one, one])
        self.refuses("setups", setups=[one, ("oven", "wood", "clay", 1), ("saw", "wood", "clay", 2)])
        for other in (("oven", "wood", "clay", 1), ("saw", "clay", "wood", 1), ("saw", "wood", "air", 1)):
            self.takes(setups=[one, other])

    def test_kinds_of_rows(self):
        good = ("saw", "wood", "clay", 1)
        for row in (list(good), good[:3], good + (1,), (), None, "saw", 5, {}):
            self.refuses("setups", setups=[row])


class LinksTest(PartCase):
    def many(self, how_many):
        steps = [(name, "k", [("saw", 1)]) for name in ["cut", "bake", "glue", "saw"] + names(10)]
        pairs = [(one[0], other[0], 0) for one in steps for other in steps if one != other]
        return {"steps": steps, "links": pairs[:how_many]}

    def test_how_many(self):
        self.takes(links=[])
        self.takes(**self.many(100))
        self.refuses("links", **self.many(101))

    def test_names(self):
        self.refuses("links", links=[("cut", "cut", 0)])
        self.refuses("links", links=[("cut", "oven", 0)])
        self.refuses("links", links=[("oven", "cut", 0)])
        for name in NO_NAMES:
            self.refuses("links", links=[(name, "cut", 0)])
            self.refuses("links", links=[("cut", name, 0)])

    def test_gaps(self):
        for gap in (0, 1, 99, 100):
            self.takes(links=[("cut", "bake", gap)])
        for gap in (-1, 101, int("9" * 40)) + NO_WHOLES:
            self.refuses("links", links=[("cut", "bake", gap)])

    def test_no_two_of_one_and_other(self):
        self.refuses("links", links=[("cut", "bake", 1), ("cut", "bake", 1)])
        self.refuses("links", links=[("cut", "bake", 1), ("cut", "glue", 1), ("cut", "bake", 2)])
        self.takes(links=[("cut", "bake", 1), ("cut", "glue", 1), ("glue", "bake", 1)])

    def test_a_ring_is_let_by(self):
        self.takes(links=[("cut", "bake", 1), ("bake", "cut", 1)])
        self.takes(links=[("cut", "bake", 1), ("bake", "glue", 1), ("glue", "cut", 1)])

    def test_kinds_of_rows(self):
        good = ("cut", "bake", 1)
        for row in (list(good), good[:2], good + (1,), (), None, "cut", 5, {}):
            self.refuses("links", links=[row])


class StocksTest(PartCase):
    def test_how_many(self):
        rows = [(name, 0, 0, [], []) for name in names(7)]
        self.takes(stocks=[])
        self.takes(stocks=rows[:6])
        self.refuses("stocks", stocks=rows)

    def test_names(self):
        for name in ("a", "abcdefgh", "saw", "cut", "chair"):
            self.takes(stocks=[(name, 0, 0, [], [])])
        for name in NO_NAMES:
            self.refuses("stocks", stocks=[(name, 0, 0, [], [])])
        self.refuses("stocks", stocks=[("s", 0, 0, [], []), ("s", 1, 1, [], [])])

    def test_first_and_room(self):
        for first, room in ((0, 0), (0, 5), (5, 5), (0, 10 ** 6), (10 ** 6, 10 ** 6)):
            self.takes(stocks=[("s", first, room, [], [])])
        for first, room in ((-1, 5), (6, 5), (1, 0), (0, -1), (-1, -1), (0, 10 ** 6 + 1), (10 ** 6 + 1, 10 ** 6)):
            self.refuses("stocks", stocks=[("s", first, room, [], [])])
        for thing in NO_WHOLES:
            self.refuses("stocks", stocks=[("s", thing, 5, [], [])])
            self.refuses("stocks", stocks=[("s", 0, thing, [], [])])

    def both_ways(self, rows):
        return [("s", 0, 0, rows, [])], [("s", 0, 0, [], rows)]

    def test_how_many_takes_and_puts(self):
        steps = [(name, "k", [("saw", 1)]) for name in ["cut", "bake", "glue", "saw"] + names(36)]
        every = [(step[0], 1) for step in steps]
        for stocks in self.both_ways(every):
            self.takes(steps=steps, stocks=stocks)
        for stocks in self.both_ways(every + [("cut", 1)]):
            self.refuses("stocks", steps=steps, stocks=stocks)

    def test_amounts(self):
        for amount in (1, 2, 101, 10 ** 6):
            for stocks in self.both_ways([("cut", amount)]):
                self.takes(stocks=stocks)
        for amount in (0, -1, 10 ** 6 + 1, int("9" * 40)) + NO_WHOLES:
            for stocks in self.both_ways([("cut", amount)]):
                self.refuses("stocks", stocks=stocks)

    def test_steps(self):
        for name in NO_NAMES + ("oven", "unknown", "s"):
            for stocks in self.both_ways([(name, 1)]):
                self.refuses("stocks", stocks=stocks)

    def test_each_step_once_in_takes_and_once_in_puts(self):
        self.takes(stocks=[("s", 0, 0, [("cut", 1), ("bake", 1)], [("bake", 2), ("cut", 2)])])
        self.takes(stocks=[("s", 0, 0, [("cut", 1)], []), ("t", 0, 0, [("cut", 1)], [])])
        for stocks in self.both_ways([("cut", 1), ("bake", 1), ("cut", 2)]):
            self.refuses("stocks", stocks=stocks)

    def test_kinds_of_rows(self):
        for row in (["cut", 1], ("cut",), ("cut", 1, 1), (), None, "cut", 5, {}):
            for stocks in self.both_ways([row]):
                self.refuses("stocks", stocks=stocks)
        good = ("s", 0, 0, [], [])
        spoilt = (list(good), good[:4], good + ([],), ("s", 0, 0, (), []), ("s", 0, 0, [], ()), ("s", 0, 0, None, []))
        for row in spoilt + (None, "s", 5, {}):
            self.refuses("stocks", stocks=[row])


if __name__ == "__main__":
    unittest.main()
