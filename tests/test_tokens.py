"""[A6]: how a text is cut into tokens, and where it has a bad sign."""

import unittest

from soundlooks.errors import InvalidText
from soundlooks.text import read, tokens
from tests.helper import refused


def words(text):
    return [told for told, _, _ in tokens(text)]


class Tokens(unittest.TestCase):
    def bad(self, text, line, column):
        refused(self, InvalidText, {"line": line, "column": column}, tokens, text)
        refused(self, InvalidText, {"line": line, "column": column}, tokens, text=text)

    def test_no_str(self):
        for value in (None, True, 0, (), [], b"x", ("a",), {}, object(), str):
            refused(self, InvalidText, {"line": None, "column": None}, tokens, value)
            refused(self, InvalidText, {"line": None, "column": None}, read, text=value)

    def test_no_tokens(self):
        for text in ("", " ", "\n", "  \n \n", "# note", "#\n#", " # !!\n"):
            self.assertEqual(tokens(text), ())

    def test_each_sign(self):
        for sign in "( ) { } [ ] , ; = == != < <= + - *".split():
            self.assertEqual(tokens(sign), ((sign, 1, 1),))
            self.assertEqual(tokens("  " + sign + " \n" + sign), ((sign, 1, 3), (sign, 2, 1)))

    def test_the_longer_one(self):
        self.assertEqual(words("==="), ["==", "="])
        self.assertEqual(words("===="), ["==", "=="])
        self.assertEqual(words("<=="), ["<=", "="])
        self.assertEqual(words("<<="), ["<", "<="])
        self.assertEqual(words("=<="), ["=", "<="])
        self.assertEqual(words("=!="), ["=", "!="])
        self.assertEqual(words("!=="), ["!=", "="])
        self.assertEqual(words("= ="), ["=", "="])
        self.assertEqual(words("=\n="), ["=", "="])
        self.assertEqual(words("<# \n="), ["<", "="])

    def test_words_and_numbers(self):
        self.assertEqual(words("a z9 num any abcdefghijkl a23456789012"),
                         ["a", "z9", "num", "any", "abcdefghijkl", "a23456789012"])
        self.assertEqual(words("0 1 9 10 " + "9" * 40), ["0", "1", "9", "10", "9" * 40])
        self.assertEqual(words("0 0"), ["0", "0"])
        self.assertEqual(words("0\n0#\n0"), ["0", "0", "0"])

    def test_without_blanks(self):
        self.assertEqual(words("a[b+1]=-5*(c);x<=y!=z"),
                         ["a", "[", "b", "+", "1", "]", "=", "-", "5", "*", "(", "c", ")", ";", "x", "<=", "y", "!=",
                          "z"])
        self.assertEqual(words("0+0-10{a}"), ["0", "+", "0", "-", "10", "{", "a", "}"])

    def test_places(self):
        self.assertEqual(tokens("ab  cd\n\n  1+\n# x\n="),
                         (("ab", 1, 1), ("cd", 1, 5), ("1", 3, 3), ("+", 3, 4), ("=", 5, 1)))

    def test_notes(self):
        self.assertEqual(tokens("a# b ! \t A 007\nc"), (("a", 1, 1), ("c", 2, 1)))
        self.assertEqual(tokens("1#2\n3# # #"), (("1", 1, 1), ("3", 2, 1)))
        self.assertEqual(tokens("a # \r \u2028 \x0b \x85 x\ny"), (("a", 1, 1), ("y", 2, 1)))
        self.assertEqual(tokens("abcdefghijkl#m"), (("abcdefghijkl", 1, 1),))

    def test_signs_of_no_token(self):
        for sign in "!\"$%&'./:>?@ABZ\\^_`|~\t\r\x0b\x0c\x00\x7f\x85\xa0\u00e4\u0131\u0661\u2028\ufeff":
            self.bad(sign, 1, 1)
            self.bad("a " + sign, 1, 3)
            self.bad("a" + sign, 1, 2)
            self.bad("17" + sign + "5", 1, 3)
            self.bad("0" + sign, 1, 2)
            self.bad("\n\n  <" + sign, 3, 4)
            self.bad("# x\n# y\n" + sign + "#", 3, 1)

    def test_exclamation_sign(self):
        self.bad("!", 1, 1)
        self.bad("! =", 1, 1)
        self.bad("!\n=", 1, 1)
        self.bad("!!=", 1, 1)
        self.bad("!#=", 1, 1)
        self.bad("a != b ! c", 1, 8)
        self.bad("=!", 1, 2)
        self.bad("x==!y", 1, 4)

    def test_letter_behind_figures(self):
        self.bad("1a", 1, 2)
        self.bad("0a", 1, 2)
        self.bad("120z3", 1, 4)
        self.bad("x 12\n 345num", 2, 5)
        self.bad("9" * 40 + "a", 1, 41)

    def test_figure_behind_a_first_0(self):
        self.bad("00", 1, 2)
        self.bad("007", 1, 2)
        self.bad("a = 01", 1, 6)
        self.bad("5 007", 1, 4)
        self.assertEqual(words("100"), ["100"])

    def test_thirteenth_sign_of_a_word(self):
        self.bad("abcdefghijklm", 1, 13)
        self.bad("abcdefghijkl1", 1, 13)
        self.bad("abcdefghijklmnop!", 1, 13)
        self.bad(" x abcdefghijklm", 1, 16)
        self.bad("abcdefghijklM", 1, 13)
        self.bad("a" * 1000, 1, 13)

    def test_forty_first_figure(self):
        self.bad("1" * 41, 1, 41)
        self.bad("x\n " + "9" * 60, 2, 42)

    def test_the_first_bad_sign_is_told(self):
        self.bad("a ! 007", 1, 3)
        self.bad("a\n007 !", 2, 2)
        self.bad("# !\n b !", 2, 4)

    def test_a_letter_behind_the_broken_off_is_not_asked(self):
        self.bad("1_a", 1, 2)
        self.bad("abA1", 1, 3)

    def test_grammar_is_not_asked(self):
        self.assertEqual(words(") num proc 5 5 else"), [")", "num", "proc", "5", "5", "else"])


if __name__ == "__main__":
    unittest.main()
