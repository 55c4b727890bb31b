from common import Case, of_every_kind

from dimkeeper.checks import is_integer, is_name, is_stem, is_within, joined_name
from dimkeeper.errors import TooMany


class Checks(Case):

    def test_example(self):
        self.assertEqual([is_name("fog.left"), is_name("fog..left"), is_name("Left"), is_stem("fog.left"),
                          is_within(True, 0, 3), joined_name("s1", "day")],
                         [True, False, False, False, False, "s1.day"])

    def test_is_integer(self):
        for value in (0, 1, -1, 10 ** 30, -10 ** 30):
            self.assertIs(is_integer(value), True)
        for value in of_every_kind():
            self.assertIs(is_integer(value), type(value) is int)

    def test_is_within(self):
        for value, least, most, told in [
                (0, 0, 0, True), (1, 0, 0, False), (-1, 0, 0, False), (3, 0, 3, True), (4, 0, 3, False),
                (5, None, 5, True), (6, None, 5, False), (-10 ** 9, None, 5, True), (5, 5, None, True),
                (4, 5, None, False), (10 ** 9, 5, None, True), (7, None, None, True), (True, None, None, False),
                (True, 0, 3, False), (False, 0, 3, False), (1.0, 0, 3, False), ("1", 0, 3, False)]:
            self.assertIs(is_within(value, least, most), told, (value, least, most))
        for value in of_every_kind():
            self.assertIs(is_within(value, None, None), type(value) is int)

    def test_is_stem(self):
        for value in ("a", "z", "a0", "a9z", "abcdefghijkl", "a" * 12, "broken"):
            self.assertIs(is_stem(value), True, value)
        for value in ("", "a" * 13, "0a", "9", "A", "aB", "a_b", "a-b", "a b", "a.b", " a", "a ", "a\n", "\u00e9", "a\u0660",
                      "\u0430", "a\u00b2", ".", "a."):
            self.assertIs(is_stem(value), False, value)

    def test_is_name(self):
        for value in ("a", "a.b", "a1.b2.c3.d4.e5.f6", ".".join(["a" * 12] * 6)):
            self.assertIs(is_name(value), True, value)
        for value in ("", ".", "a.", ".a", "a..b", "a.b.c.d.e.f.g", "a.1", "a.B", ".".join(["a" * 13] * 2), "a. b"):
            self.assertIs(is_name(value), False, value)

    def test_any_value(self):
        for value in of_every_kind():
            self.assertIs(is_stem(value), value == "x" and isinstance(value, str))
            self.assertIs(is_name(value), value == "x" and isinstance(value, str))

    def test_joined_name(self):
        self.assertEqual(joined_name("a"), "a")
        self.assertEqual(joined_name("a.b", "c", "d.e.f"), "a.b.c.d.e.f")
        self.fails(TooMany("stems", 6), joined_name, "a.b", "c", "d.e.f", "g")
        self.fails(TooMany("stems", 6), joined_name, "a.b.c.d.e.f.g")
        self.assertEqual(joined_name(*"abcdef"), "a.b.c.d.e.f")
        self.fails(TooMany("stems", 6), joined_name, *"abcdefg")
