"""[39], [43]: a low and a top drawn near one another, by answers that are made up."""

import unittest

from shopbound.brackets import Bracket, draw_near


class Asked:
    """Answers about a least size, some of which are spent; what was asked is kept."""

    def __init__(self, least, spent=(), slack=0):
        self.least = least
        self.spent = spent
        self.slack = slack
        self.sizes = []

    def ask(self, k):
        self.sizes.append(k)
        if k in self.spent:
            return ("spent", None, 0)
        if k < self.least:
            return ("shut", f"tree {k}", 0)
        return ("found", {"size": min(k, self.least + self.slack)}, 0)


class DrawTest(unittest.TestCase):
    def drawn(self, asked, low, top, schedule, below=None):
        bracket = Bracket(low, "first tree", top, schedule)
        draw_near(bracket, top if below is None else below, asked.ask, lambda schedule: schedule["size"])
        self.assertTrue(all(low <= k < top for k in asked.sizes), asked.sizes)
        self.assertTrue(bracket.low == low or bracket.tree == f"tree {bracket.low - 1}")
        if bracket.low == low:
            self.assertEqual(bracket.tree, "first tree")
        if bracket.schedule is not None:
            self.assertEqual(bracket.schedule["size"], bracket.top)
        return bracket

    def test_all_is_told(self):
        for least in range(3, 41):
            for slack in (0, 3, 50):
                asked = Asked(least, slack=slack)
                bracket = self.drawn(asked, 3, 40, {"size": 40})
                self.assertEqual((bracket.low, bracket.top), (least, least))
                self.assertTrue(bracket.is_closed())
                self.assertLess(len(asked.sizes), 8)

    def test_closed_at_first(self):
        asked = Asked(7)
        self.assertTrue(self.drawn(asked, 7, 7, {"size": 7}).is_closed())
        self.assertEqual(asked.sizes, [])

    def test_a_long_way(self):
        asked = Asked(654321)
        self.assertTrue(self.drawn(asked, 1, 10 ** 6, {"size": 10 ** 6}).is_closed())
        self.assertLess(len(asked.sizes), 25)

    def test_spent_in_the_middle(self):
        asked = Asked(20, spent=range(15, 30), slack=50)
        bracket = self.drawn(asked, 3, 40, {"size": 40})
        self.assertEqual((bracket.low, bracket.top), (15, 30))
        self.assertFalse(bracket.is_closed())
        self.assertEqual(len(asked.sizes), len(set(asked.sizes)))

    def test_shut_right_below_the_top(self):
        asked = Asked(40, spent=range(3, 39))
        bracket = self.drawn(asked, 3, 40, {"size": 40})
        self.assertTrue(bracket.is_closed())
        self.assertEqual(asked.sizes[-1], 39)

    def test_spent_right_below_the_top(self):
        asked = Asked(40, spent=[39])
        self.assertEqual(self.drawn(asked, 3, 40, {"size": 40}).low, 39)
        self.assertEqual(asked.sizes.count(39), 1)

    def test_all_is_spent(self):
        asked = Asked(20, spent=range(100))
        bracket = self.drawn(asked, 3, 40, {"size": 40})
        self.assertEqual((bracket.low, bracket.top), (3, 40))
        self.assertEqual(len(asked.sizes), len(set(asked.sizes)))

    def test_no_schedule_yet(self):
        bracket = self.drawn(Asked(60, spent=[39]), 3, 40, None, 39)
        self.assertEqual((bracket.low, bracket.schedule), (39, None))
        self.assertFalse(bracket.is_closed())
        bracket = self.drawn(Asked(20), 3, 40, None, 39)
        self.assertTrue(bracket.is_closed())
        asked = Asked(20, spent=range(100))
        bracket = self.drawn(asked, 3, 40, None, 39)
        self.assertEqual((bracket.low, bracket.top, bracket.schedule), (3, 40, None))
        self.assertNotIn(39, asked.sizes)

    def test_no_schedule_though_the_low_is_at_the_top(self):
        self.assertFalse(Bracket(7, None, 7, None).is_closed())
        self.assertTrue(Bracket(7, None, 7, {}).is_closed())
        self.assertFalse(Bracket(6, None, 7, {}).is_closed())

    def test_it_is_found_lower_no_more_than_some_times(self):
        asked = Asked(0, spent=range(500), slack=10 ** 6)
        bracket = self.drawn(asked, 0, 1000, {"size": 1000})
        self.assertLess(bracket.top, 1000)
        self.assertLess(len(asked.sizes), 50)


if __name__ == "__main__":
    unittest.main()
