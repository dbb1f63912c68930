"""[3], [14] to [16]: the first wish that a schedule breaks, its length and its ends."""

import inspect
import unittest

from shopbound.schedules import ends_of, first_broken, length_of
from tests.samples import copied, lists_of, small_shop, spoil_lists


def on_b(**lengths):
    """Steps with one way each, on b, of one kind."""
    return [(name, "k", [("b", length)]) for name, length in lengths.items()]


def mixed_shop(**parts):
    """A shop of three steps, two of which have a choice."""
    new = {
        "horizon": 20,
        "benches": [("b", []), ("c", [])],
        "steps": [("two", "l", [("b", 3), ("c", 2)]), ("one", "k", [("c", 4), ("b", 3)]), ("zed", "k", [("b", 1)])],
    }
    new.update(parts)
    return small_shop(**new)


class SchedulesCase(unittest.TestCase):
    def told(self, shop, asked, **places):
        with self.subTest(asked=asked, places=places):
            self.assertEqual(first_broken(shop, places), asked)


class StepWishTest(SchedulesCase):
    def test_kept(self):
        self.told(mixed_shop(), None, two=("b", 0), one=("c", 0), zed=("b", 3))
        self.told(mixed_shop(), None, zed=("b", 3), one=("c", 0), two=("b", 0))

    def test_a_step_left_out(self):
        self.told(mixed_shop(), ("step", "zed"), two=("b", 0), one=("c", 0))
        self.told(mixed_shop(), ("step", "one"), two=("b", 0), zed=("b", 3))

    def test_the_first_of_the_shop_that_is_left_out(self):
        self.told(mixed_shop(), ("step", "two"))
        self.told(mixed_shop(), ("step", "two"), zed=("b", 3))
        self.told(mixed_shop(), ("step", "one"), two=("b", 0))

    def test_a_name_too_many(self):
        good = {"two": ("b", 0), "one": ("c", 0), "zed": ("b", 3)}
        self.told(mixed_shop(), ("step", "b"), b=("b", 9), **good)
        self.told(mixed_shop(), ("step", "zedd"), zedd=("b", 9), **good)
        self.told(mixed_shop(), ("step", "aa"), m=("b", 9), aa=("b", 9), b=("b", 9), **good)
        for strange in ("", " ", "One", "no name at all", "one\n"):
            self.told(mixed_shop(), ("step", strange), **{"x": ("b", 9), strange: ("b", 9)}, **good)

    def test_a_step_left_out_goes_ahead_of_a_name_too_many(self):
        self.told(mixed_shop(), ("step", "zed"), aa=("b", 9), two=("b", 0), one=("c", 0))


class WayWishTest(SchedulesCase):
    def test_a_bench_that_is_none_of_the_ways(self):
        self.told(mixed_shop(), ("way", "zed"), two=("b", 0), one=("c", 0), zed=("c", 10))
        self.told(mixed_shop(), ("way", "one"), two=("b", 0), one=("mill", 0), zed=("b", 3))
        self.told(mixed_shop(), ("way", "two"), two=("", 0), one=("c", 0), zed=("b", 3))

    def test_starts(self):
        shop = small_shop()
        self.told(shop, None, one=("b", 0))
        self.told(shop, ("way", "one"), one=("b", -1))
        self.told(shop, ("way", "one"), one=("b", -3))
        self.told(shop, ("way", "one"), one=("b", -int("9" * 40)))

    def test_ends(self):
        shop = small_shop()
        self.told(shop, None, one=("b", 17))
        self.told(shop, ("way", "one"), one=("b", 18))
        self.told(shop, ("way", "one"), one=("b", 20))
        self.told(shop, ("way", "one"), one=("b", int("9" * 40)))

    def test_the_length_is_that_of_the_bench(self):
        shop = small_shop(steps=[("one", "k", [("b", 20), ("c", 5)])])
        self.told(shop, None, one=("b", 0))
        self.told(shop, ("way", "one"), one=("b", 1))
        self.told(shop, None, one=("c", 15))
        self.told(shop, ("way", "one"), one=("c", 16))

    def test_the_first_in_the_shops_order(self):
        self.told(mixed_shop(), ("way", "two"), zed=("c", 0), one=("c", -1), two=("b", 18))
        self.told(mixed_shop(), ("way", "one"), zed=("c", 0), one=("c", -1), two=("b", 17))


class JobWishTest(SchedulesCase):
    def shop(self):
        return mixed_shop(jobs=[("j", 2, 9, False, ["zed", "one"]), ("i", 3, 6, True, ["two"])])

    def test_early(self):
        self.told(self.shop(), None, two=("b", 3), one=("c", 2), zed=("b", 7))
        self.told(self.shop(), ("job", "one"), two=("b", 3), one=("c", 1), zed=("b", 7))
        self.told(self.shop(), ("job", "two"), two=("b", 2), one=("c", 2), zed=("b", 7))

    def test_due(self):
        self.told(self.shop(), None, two=("b", 3), one=("c", 4), zed=("b", 8))
        self.told(self.shop(), ("job", "zed"), two=("b", 3), one=("c", 4), zed=("b", 9))
        self.told(self.shop(), ("job", "two"), two=("b", 4), one=("c", 4), zed=("b", 8))

    def test_a_step_in_no_job_is_free(self):
        shop = mixed_shop(jobs=[("j", 10, 11, True, ["zed"])])
        self.told(shop, None, two=("b", 0), one=("c", 16), zed=("b", 10))

    def test_the_first_in_the_shops_order_not_in_the_jobs(self):
        self.told(self.shop(), ("job", "two"), two=("b", 0), one=("c", 0), zed=("b", 0))
        self.told(self.shop(), ("job", "one"), two=("b", 3), one=("c", 0), zed=("b", 0))


class BreakWishTest(SchedulesCase):
    def shop(self):
        return small_shop(benches=[("b", [(5, 7), (12, 13)]), ("c", [(0, 20)])])

    def test_each_start(self):
        for start in range(18):
            at_work = range(start, start + 3)
            broken = any(moment in (5, 6, 12) for moment in at_work)
            self.told(self.shop(), ("break", "one") if broken else None, one=("b", start))

    def test_a_break_within_the_step_and_a_step_within_the_break(self):
        long = small_shop(benches=[("b", [(5, 6)])], steps=[("one", "k", [("b", 9)])])
        self.told(long, ("break", "one"), one=("b", 0))
        self.told(long, None, one=("b", 6))
        short = small_shop(benches=[("b", [(5, 15)])], steps=[("one", "k", [("b", 1)])])
        for start in range(20):
            self.told(short, ("break", "one") if 5 <= start < 15 else None, one=("b", start))

    def test_only_breaks_of_its_own_bench(self):
        shop = mixed_shop(benches=[("b", []), ("c", [(1, 3)])])
        self.told(shop, None, two=("b", 1), one=("b", 4), zed=("b", 0))
        self.told(shop, ("break", "one"), two=("b", 1), one=("c", 0), zed=("b", 0))

    def test_the_first_in_the_shops_order(self):
        shop = mixed_shop(benches=[("b", [(0, 1)]), ("c", [(0, 1)])])
        self.told(shop, ("break", "two"), zed=("b", 0), one=("c", 0), two=("b", 0))
        self.told(shop, ("break", "one"), zed=("b", 0), one=("c", 0), two=("b", 1))


class BenchWishTest(SchedulesCase):
    def shop(self, *setups):
        steps = [("one", "k", [("b", 3), ("c", 3)]), ("two", "l", [("b", 2), ("c", 2)])]
        return small_shop(steps=steps, setups=list(setups))

    def test_without_setups(self):
        for start in range(12):
            kept = start + 2 <= 5 or start >= 8
            self.told(self.shop(), None if kept else ("bench", "one", "two"), one=("b", 5), two=("b", start))
            self.told(self.shop(), None, one=("b", 5), two=("c", start))

    def test_setups_hang_on_the_order(self):
        shop = self.shop(("b", "k", "l", 4), ("b", "l", "k", 2))
        for start in range(16):
            kept = start + 2 + 2 <= 5 or start >= 8 + 4
            self.told(shop, None if kept else ("bench", "one", "two"), one=("b", 5), two=("b", start))

    def test_setups_of_another_bench_or_kind_do_not_count(self):
        shop = self.shop(("c", "k", "l", 4), ("b", "k", "k", 4), ("b", "l", "l", 4), ("b", "l", "k", 4), ("b", "k", "m", 4))
        self.told(shop, None, one=("b", 0), two=("b", 3))

    def test_setups_within_one_kind(self):
        shop = small_shop(steps=on_b(one=3, two=2), setups=[("b", "k", "k", 1)])
        self.told(shop, None, one=("b", 0), two=("b", 4))
        self.told(shop, ("bench", "one", "two"), one=("b", 0), two=("b", 3))

    def test_the_longer_of_two_that_start_at_once(self):
        self.told(self.shop(), ("bench", "one", "two"), one=("b", 5), two=("b", 5))
        self.told(self.shop(), None, one=("b", 5), two=("c", 5))

    def test_setups_reach_past_a_step_between(self):
        steps = [("one", "k", [("b", 1)]), ("two", "m", [("b", 1)]), ("zed", "l", [("b", 1)])]
        shop = small_shop(steps=steps, setups=[("b", "k", "l", 5)])
        self.told(shop, ("bench", "one", "zed"), one=("b", 0), two=("b", 1), zed=("b", 5))
        self.told(shop, None, one=("b", 0), two=("b", 1), zed=("b", 6))

    def test_the_first_pair_as_the_steps_stand(self):
        shop = small_shop(steps=on_b(zed=2, two=2, one=2, abc=2))
        self.told(shop, ("bench", "zed", "two"), zed=("b", 1), two=("b", 0), one=("b", 0), abc=("b", 1))
        self.told(shop, ("bench", "zed", "abc"), zed=("b", 9), two=("b", 0), one=("b", 0), abc=("b", 8))
        self.told(shop, ("bench", "two", "one"), zed=("b", 9), two=("b", 1), one=("b", 0), abc=("b", 0))
        self.told(shop, ("bench", "one", "abc"), zed=("b", 9), two=("b", 6), one=("b", 1), abc=("b", 0))


class ApartWishTest(SchedulesCase):
    def shop(self, ordered, members=("one", "two")):
        steps = [("two", "k", [("c", 2)]), ("one", "k", [("b", 3)])]
        return small_shop(steps=steps, jobs=[("j", 0, 20, ordered, list(members))])

    def test_not_ordered(self):
        for start in range(12):
            kept = start + 2 <= 5 or start >= 8
            self.told(self.shop(False), None if kept else ("apart", "one", "two"), one=("b", 5), two=("c", start))

    def test_ordered(self):
        for start in range(12):
            kept = start >= 8
            self.told(self.shop(True), None if kept else ("apart", "one", "two"), one=("b", 5), two=("c", start))

    def test_ordered_by_the_jobs_own_list(self):
        for start in range(12):
            kept = start + 2 <= 5
            shop = self.shop(True, ("two", "one"))
            self.told(shop, None if kept else ("apart", "two", "one"), one=("b", 5), two=("c", start))

    def test_steps_of_two_jobs_and_of_none_are_free(self):
        steps = [("two", "k", [("c", 2)]), ("one", "k", [("b", 3)])]
        jobs = [("j", 0, 20, True, ["one"]), ("i", 0, 20, True, ["two"])]
        self.told(small_shop(steps=steps, jobs=jobs), None, one=("b", 5), two=("c", 5))
        self.told(small_shop(steps=steps, jobs=jobs[:1]), None, one=("b", 5), two=("c", 5))

    def many(self, *jobs):
        benches = [(name, []) for name in ("b", "c", "d", "e")]
        steps = [(step, "k", [(bench, 2)]) for step, bench in zip(("one", "two", "three", "four"), ("b", "c", "d", "e"))]
        return small_shop(benches=benches, steps=steps, jobs=list(jobs))

    def test_steps_that_are_no_neighbours_in_an_ordered_job(self):
        shop = self.many(("j", 0, 20, True, ["one", "two", "three"]))
        self.told(shop, ("apart", "one", "two"), one=("b", 4), two=("c", 0), three=("d", 2), four=("e", 0))
        self.told(shop, ("apart", "one", "three"), one=("b", 2), two=("c", 4), three=("d", 0), four=("e", 0))
        self.told(shop, None, one=("b", 0), two=("c", 2), three=("d", 4), four=("e", 0))

    def test_jobs_in_their_order_and_pairs_in_the_jobs_own(self):
        one = ("j", 0, 20, False, ["three", "one"])
        other = ("i", 0, 20, True, ["four", "two"])
        at_once = {"one": ("b", 0), "two": ("c", 0), "three": ("d", 0), "four": ("e", 0)}
        self.told(self.many(one, other), ("apart", "three", "one"), **at_once)
        self.told(self.many(other, one), ("apart", "four", "two"), **at_once)
        whole = ("j", 0, 20, False, ["four", "two", "one", "three"])
        self.told(self.many(whole), ("apart", "four", "two"), **at_once)
        self.told(self.many(whole), ("apart", "four", "three"), **dict(at_once, two=("c", 9), one=("b", 4)))
        self.told(self.many(whole), ("apart", "two", "one"), **dict(at_once, four=("e", 9)))
        self.told(self.many(whole), ("apart", "one", "three"), **dict(at_once, four=("e", 9), two=("c", 4)))


class LinkWishTest(SchedulesCase):
    def shop(self, *links):
        steps = [("two", "k", [("c", 2)]), ("one", "k", [("b", 3)]), ("zed", "k", [("b", 1)])]
        return small_shop(steps=steps, links=list(links))

    def test_gaps(self):
        for gap in (0, 1, 4):
            shop = self.shop(("one", "two", gap))
            self.told(shop, None, one=("b", 5), two=("c", 8 + gap), zed=("b", 0))
            self.told(shop, None, one=("b", 5), two=("c", 9 + gap), zed=("b", 0))
            self.told(shop, ("link", "one", "two"), one=("b", 5), two=("c", 7 + gap), zed=("b", 0))
            self.told(shop, ("link", "one", "two"), one=("b", 5), two=("c", 0), zed=("b", 0))

    def test_links_in_their_order(self):
        first = ("one", "two", 9)
        second = ("zed", "two", 9)
        places = {"one": ("b", 1), "two": ("c", 1), "zed": ("b", 0)}
        self.told(self.shop(first, second), ("link", "one", "two"), **places)
        self.told(self.shop(second, first), ("link", "zed", "two"), **places)

    def test_a_ring_is_never_kept(self):
        shop = small_shop(steps=[("one", "k", [("b", 1)]), ("two", "k", [("c", 1)])], horizon=5,
                          links=[("one", "two", 0), ("two", "one", 0)])
        for one in range(5):
            for two in range(5):
                asked = ("link", "one", "two") if two < one + 1 else ("link", "two", "one")
                self.told(shop, asked, one=("b", one), two=("c", two))


class StockWishTest(SchedulesCase):
    def shop(self, *stocks):
        steps = [("two", "k", [("c", 2)]), ("one", "k", [("b", 3)])]
        return small_shop(steps=steps, stocks=list(stocks))

    def test_takes_at_starts(self):
        self.told(self.shop(("s", 3, 3, [("one", 3)], [])), None, one=("b", 5), two=("c", 0))
        self.told(self.shop(("s", 3, 3, [("one", 4)], [])), ("stock", "s", 5), one=("b", 5), two=("c", 0))
        self.told(self.shop(("s", 0, 3, [("one", 1)], [])), ("stock", "s", 0), one=("b", 0), two=("c", 0))

    def test_puts_at_ends(self):
        self.told(self.shop(("s", 1, 3, [], [("one", 2)])), None, one=("b", 5), two=("c", 0))
        self.told(self.shop(("s", 1, 3, [], [("one", 3)])), ("stock", "s", 8), one=("b", 5), two=("c", 0))
        self.told(self.shop(("s", 0, 0, [], [("one", 1)])), ("stock", "s", 20), one=("b", 17), two=("c", 0))

    def test_a_take_at_the_moment_of_a_put(self):
        shop = self.shop(("s", 0, 5, [("two", 5)], [("one", 5)]))
        self.told(shop, None, one=("b", 5), two=("c", 8))
        self.told(shop, None, one=("b", 5), two=("c", 9))
        self.told(shop, ("stock", "s", 7), one=("b", 5), two=("c", 7))

    def test_a_put_at_the_moment_of_a_take(self):
        shop = self.shop(("s", 5, 5, [("two", 5)], [("one", 5)]))
        self.told(shop, None, one=("b", 5), two=("c", 8))
        self.told(shop, None, one=("b", 5), two=("c", 7))
        self.told(shop, ("stock", "s", 8), one=("b", 5), two=("c", 9))

    def test_a_step_that_takes_and_puts(self):
        shop = self.shop(("s", 2, 4, [("one", 2)], [("one", 4)]))
        self.told(shop, None, one=("b", 5), two=("c", 0))
        shop = self.shop(("s", 2, 4, [("one", 3)], [("one", 3)]))
        self.told(shop, ("stock", "s", 5), one=("b", 5), two=("c", 0))
        shop = self.shop(("s", 2, 4, [("one", 2)], [("one", 5)]))
        self.told(shop, ("stock", "s", 8), one=("b", 5), two=("c", 0))

    def test_what_several_steps_take_and_put_is_summed(self):
        shop = self.shop(("s", 5, 5, [("one", 3), ("two", 3)], []))
        self.told(shop, ("stock", "s", 7), one=("b", 5), two=("c", 7))
        self.told(shop, ("stock", "s", 5), one=("b", 5), two=("c", 5))
        shop = self.shop(("s", 0, 5, [], [("one", 3), ("two", 3)]))
        self.told(shop, ("stock", "s", 8), one=("b", 5), two=("c", 0))
        self.told(shop, ("stock", "s", 9), one=("b", 5), two=("c", 7))

    def test_stocks_in_their_order_then_the_least_moment(self):
        late = ("late", 0, 9, [("one", 1)], [])
        soon = ("soon", 0, 9, [("two", 1)], [])
        both = ("both", 0, 9, [("one", 1), ("two", 1)], [])
        places = {"one": ("b", 9), "two": ("c", 4)}
        self.told(self.shop(late, soon), ("stock", "late", 9), **places)
        self.told(self.shop(soon, late), ("stock", "soon", 4), **places)
        self.told(self.shop(both), ("stock", "both", 4), **places)

    def test_far_moments(self):
        steps = [("one", "k", [("b", 1)])]
        shop = small_shop(horizon=10 ** 6, steps=steps, stocks=[("s", 0, 0, [], [("one", 1)])])
        self.told(shop, ("stock", "s", 10 ** 6), one=("b", 10 ** 6 - 1))


class SeveralBrokenTest(SchedulesCase):
    """[15]: by kinds in their order; each one that is mended lets the next one be told."""

    def shop(self):
        return small_shop(
            benches=[("b", [(6, 7)]), ("c", [])],
            steps=[("one", "k", [("b", 3), ("c", 3)]), ("two", "k", [("b", 3), ("c", 3)])],
            jobs=[("j", 2, 18, True, ["two", "one"])],
            links=[("two", "one", 2)],
            stocks=[("s", 0, 1, [("two", 1)], [("one", 1)])],
        )

    def test_each_kind_in_its_turn(self):
        self.told(self.shop(), ("step", "two"), one=("d", 5), other=("b", 5))
        self.told(self.shop(), ("step", "other"), one=("d", 5), two=("d", 5), other=("b", 5))
        self.told(self.shop(), ("way", "two"), one=("b", 1), two=("b", -1))
        self.told(self.shop(), ("job", "one"), one=("b", 1), two=("b", 5))
        self.told(self.shop(), ("break", "two"), one=("b", 3), two=("b", 5))
        self.told(self.shop(), ("bench", "one", "two"), one=("b", 3), two=("b", 2))
        self.told(self.shop(), ("apart", "two", "one"), one=("b", 3), two=("c", 2))
        self.told(self.shop(), ("link", "two", "one"), one=("b", 7), two=("c", 3))
        self.told(self.shop(), ("stock", "s", 3), one=("b", 8), two=("c", 3))


class LengthTest(unittest.TestCase):
    def test_length_and_ends(self):
        places = {"zed": ("b", 3), "two": ("b", 0), "one": ("c", 0)}
        self.assertEqual(ends_of(mixed_shop(), places), {"two": 3, "one": 4, "zed": 4})
        self.assertEqual(length_of(mixed_shop(), places), 4)

    def test_the_length_on_the_bench_that_is_chosen(self):
        places = {"two": ("c", 9), "one": ("b", 1), "zed": ("b", 0)}
        self.assertIsNone(first_broken(mixed_shop(), places))
        self.assertEqual(ends_of(mixed_shop(), places), {"two": 11, "one": 4, "zed": 1})
        self.assertEqual(length_of(mixed_shop(), places), 11)

    def test_the_last_start_need_not_have_the_greatest_end(self):
        shop = small_shop(steps=[("one", "k", [("b", 9)]), ("two", "k", [("c", 1)])])
        self.assertEqual(length_of(shop, {"one": ("b", 0), "two": ("c", 3)}), 9)

    def test_one_step_to_the_horizon(self):
        self.assertEqual(length_of(small_shop(), {"one": ("b", 17)}), 20)
        self.assertEqual(ends_of(small_shop(), {"one": ("b", 17)}), {"one": 20})


class OwnTest(unittest.TestCase):
    """[2]: nothing handed in is changed, and what is told is the asker's own."""

    def test_shop_and_schedule_are_as_they_were(self):
        shop = SeveralBrokenTest().shop()
        before = copied(lists_of(shop))
        for places in ({}, {"one": ("b", 8), "two": ("c", 3)}, {"one": ("b", 3), "two": ("b", 5), "x": ("b", 1)}):
            kept = copied(places)
            first_broken(shop, places)
            self.assertEqual(places, kept)
            self.assertEqual(list(places), list(kept))
        self.assertEqual(lists_of(shop), before)

    def test_told_ends_are_new(self):
        places = {"zed": ("b", 3), "two": ("b", 0), "one": ("c", 0)}
        kept = copied(places)
        shop = mixed_shop()
        ends = ends_of(shop, places)
        again = ends_of(shop, places)
        spoil_lists(ends)
        ends["one"] = 99
        self.assertEqual(again, {"two": 3, "one": 4, "zed": 4})
        self.assertEqual(ends_of(shop, places), again)
        self.assertEqual(length_of(shop, places), 4)
        self.assertEqual(places, kept)

    def test_a_schedule_changed_afterwards_changes_no_ends(self):
        places = {"zed": ("b", 3), "two": ("b", 0), "one": ("c", 0)}
        ends = ends_of(mixed_shop(), places)
        places["one"] = ("c", 9)
        self.assertEqual(ends, {"two": 3, "one": 4, "zed": 4})

    def test_interface(self):
        for told in (first_broken, length_of, ends_of):
            self.assertEqual(list(inspect.signature(told).parameters), ["shop", "schedule"])


if __name__ == "__main__":
    unittest.main()
