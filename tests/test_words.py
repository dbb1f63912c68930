"""[2], [4]: whole numbers and names, of anything."""

import unittest

from shopbound.words import is_name, is_whole

OTHER_THINGS = (None, 1.0, b"a", [], (), {}, ["a"], ("a",), {"a": 1}, {1}, object(), len, int, str)


class WholeTest(unittest.TestCase):
    def test_whole_numbers(self):
        for number in (0, 1, -1, 7, -7, 10 ** 6, 10 ** 39, -(10 ** 39), int("9" * 40), -int("9" * 40)):
            with self.subTest(number):
                self.assertIs(is_whole(number), True)

    def test_truths_are_none(self):
        self.assertIs(is_whole(True), False)
        self.assertIs(is_whole(False), False)

    def test_other_kinds_are_none(self):
        for thing in OTHER_THINGS + ("", "1", "a", 0.0, 2 + 0j):
            with self.subTest(repr(thing)):
                self.assertIs(is_whole(thing), False)


class NameTest(unittest.TestCase):
    def test_names(self):
        for text in ("a", "z", "saw", "azazazaz", "abcdefgh", "stuvwxyz", "none", "in"):
            with self.subTest(text):
                self.assertIs(is_name(text), True)

    def test_every_small_letter(self):
        for code in range(256):
            with self.subTest(code):
                self.assertIs(is_name("m" + chr(code)), 97 <= code <= 122)
                self.assertIs(is_name(chr(code)), 97 <= code <= 122)

    def test_lengths(self):
        for many in range(40):
            with self.subTest(many):
                self.assertIs(is_name("a" * many), 1 <= many <= 8)

    def test_texts_that_are_none(self):
        for text in (
            "", "abcdefghi", "A", "Saw", "saW", "SAW", "saw1", "1", "s w", " saw", "saw ", " ",
            "saw\n", "\nsaw", "sa\nw", "\n", "sa\tw", "s-w", "s_w", "`", "{", "a/", "\u00e9", "\u00df", "\u0131",
        ):
            with self.subTest(repr(text)):
                self.assertIs(is_name(text), False)

    def test_what_is_no_text(self):
        for thing in OTHER_THINGS + (0, 1, True, False, b"saw", ["s", "a", "w"], ("saw",)):
            with self.subTest(repr(thing)):
                self.assertIs(is_name(thing), False)


if __name__ == "__main__":
    unittest.main()
