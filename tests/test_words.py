"""Point 4: the words of a source."""

import unittest

from imagetalk.errors import BadSource
from imagetalk.words import words_of

NO_SOURCES = (None, True, 7, b"x", ["x"], ("x",), {"x": 1}, {"x"}, object)
OPERATORS = "+ - * // \\\\ < > <= >= = == ~= ~~ ,".split()
SIGNS = ":= #( ( ) [ ] : | ^ . ;".split()


class WordsTest(unittest.TestCase):
    def told(self, source):
        return [(kind, value) for kind, value, _ in words_of(source)]

    def place(self, source):
        with self.assertRaises(BadSource) as caught:
            words_of(source)
        return caught.exception.place

    def test_each_kind(self):
        source = "foo at: 12 'it''s' #bar + :="
        self.assertEqual(words_of(source), [
            ("name", "foo", 0), ("keyword", "at:", 4), ("int", 12, 8), ("str", "it's", 11), ("sym", "bar", 19),
            ("op", "+", 24), ("sign", ":=", 26)])

    def test_the_source_may_be_named(self):
        self.assertEqual(words_of(source="x"), [("name", "x", 0)])

    def test_every_operator_and_every_sign(self):
        for text in OPERATORS:
            self.assertEqual(words_of(" " + text), [("op", text, 1)])
        for text in SIGNS:
            self.assertEqual(words_of(" " + text), [("sign", text, 1)])

    def test_gaps(self):
        self.assertEqual(words_of(""), [])
        self.assertEqual(words_of(" \n \"a ' comment\n\" \n"), [])
        self.assertEqual(words_of("a\"b\"c \"\"\nd"), [("name", "a", 0), ("name", "c", 4), ("name", "d", 9)])

    def test_the_longest_word_at_a_place(self):
        self.assertEqual(self.told("<=>==<"), [("op", "<="), ("op", ">="), ("op", "="), ("op", "<")])
        self.assertEqual(self.told("==="), [("op", "=="), ("op", "=")])
        self.assertEqual(self.told("~=~~="), [("op", "~="), ("op", "~~"), ("op", "=")])
        self.assertEqual(self.told("12ab3"), [("int", 12), ("name", "ab3")])
        self.assertEqual(self.told("::=:"), [("sign", ":"), ("sign", ":="), ("sign", ":")])
        self.assertEqual(self.told("||"), [("sign", "|"), ("sign", "|")])
        self.assertEqual(self.place("a///b"), 3)
        self.assertEqual(self.place("a \\\\\\ b"), 4)

    def test_names_of_forty_characters_and_more(self):
        for tail in ("", ":", ": x"):
            self.assertEqual(len(self.told("a" * 40 + tail)[0][1].rstrip(":")), 40)
            self.assertEqual(self.place("x " + "a" * 41 + tail), 2)
        self.assertEqual(self.told("A1" * 20), [("name", "A1" * 20)])
        self.assertEqual(self.place("A1" * 20 + "3"), 0)

    def test_integers_of_sixty_digits_and_more(self):
        self.assertEqual(self.told("1" * 60), [("int", int("1" * 60))])
        self.assertEqual(self.place("x + " + "1" * 61), 4)
        self.assertEqual(self.told("-" + "9" * 60), [("int", -int("9" * 60))])
        self.assertEqual(self.told("007 -0"), [("int", 7), ("op", "-"), ("int", 0)])
        self.assertEqual(self.told("-007"), [("int", -7)])
        self.assertEqual(self.told("1" * 60 + "a"), [("int", int("1" * 60)), ("name", "a")])

    def test_a_minus_ahead_of_too_many_digits_is_the_operator(self):
        self.assertEqual(self.place("-" + "1" * 61), 1)
        self.assertEqual(self.place("#( -" + "1" * 61), 4)

    def test_minus_behind_what_it_is_an_operator(self):
        for ahead in ("x", "Foo", "7", "'s'", "#s", "#a:", "#+", "#'s'", "( )", "[ ]"):
            for gap in ("", " ", "\"-\""):
                self.assertEqual(self.told(ahead + gap + "-3")[-2:], [("op", "-"), ("int", 3)], ahead)

    def test_minus_behind_what_it_belongs_to_the_digits(self):
        for ahead in ("", "at:", *OPERATORS, ":=", "(", "[", ":", "|", "^", ".", ";"):
            for gap in ("", " "):
                self.assertEqual(self.told(ahead + gap + "-3")[-1], ("int", -3), ahead)
        self.assertEqual(words_of("a -3"), [("name", "a", 0), ("op", "-", 2), ("int", 3, 3)])
        self.assertEqual(words_of("+ -3"), [("op", "+", 0), ("int", -3, 2)])
        self.assertEqual(self.told("--3"), [("op", "-"), ("int", -3)])
        self.assertEqual(self.told("- 3"), [("op", "-"), ("int", 3)])
        self.assertEqual(self.told("3--4"), [("int", 3), ("op", "-"), ("int", -4)])

    def test_minus_within_an_array_and_behind_it(self):
        for ahead in ("x", "7", "'s'", "#s", "]", "( )", "(x)", "((x) y)"):
            self.assertEqual(self.told("#(" + ahead + " -3")[-1], ("int", -3), ahead)
        self.assertEqual(self.told("#(1) -3")[-2:], [("op", "-"), ("int", 3)])
        self.assertEqual(self.told("#(1 (2) ) -3")[-2:], [("op", "-"), ("int", 3)])
        self.assertEqual(self.told("(#(1 (2) x) y -3")[-2:], [("op", "-"), ("int", 3)])
        self.assertEqual(self.told("#( ( #( ) x -3")[-1], ("int", -3))
        self.assertEqual(self.told(") #(x -3")[-1], ("int", -3))
        self.assertEqual(self.told("#([x -3")[-1], ("int", -3))
        self.assertEqual(self.told("#(x ')' \")\" -3")[-1], ("int", -3))

    def test_keywords_and_set(self):
        self.assertEqual(self.told("a:=b"), [("name", "a"), ("sign", ":="), ("name", "b")])
        self.assertEqual(self.told("a: =b"), [("keyword", "a:"), ("op", "="), ("name", "b")])
        self.assertEqual(self.told("a:b:=c"), [("keyword", "a:"), ("name", "b"), ("sign", ":="), ("name", "c")])
        self.assertEqual(self.told("a::=c"), [("keyword", "a:"), ("sign", ":="), ("name", "c")])
        self.assertEqual(self.told("a:==c"), [("name", "a"), ("sign", ":="), ("op", "="), ("name", "c")])
        self.assertEqual(self.told("a :x"), [("name", "a"), ("sign", ":"), ("name", "x")])

    def test_symbols(self):
        for text in ("a", "Foo2", "a" * 40, "at:", "at:put:", "x:Y:z3:", "a" * 40 + ":b:", *OPERATORS):
            self.assertEqual(words_of("x #" + text + " y")[1], ("sym", text, 2))
        self.assertEqual(self.told("#'it''s' #'' #'a b' #''''"),
                         [("sym", "it's"), ("sym", ""), ("sym", "a b"), ("sym", "'")])
        self.assertEqual(words_of("#at:put"), [("sym", "at:", 0), ("name", "put", 4)])
        self.assertEqual(self.told("#at:put:=3"), [("sym", "at:"), ("name", "put"), ("sign", ":="), ("int", 3)])
        self.assertEqual(self.told("#a:=3"), [("sym", "a"), ("sign", ":="), ("int", 3)])
        self.assertEqual(self.told("#-3"), [("sym", "-"), ("int", 3)])
        self.assertEqual(self.told("#<=="), [("sym", "<="), ("op", "=")])
        self.assertEqual(self.told("#(#(x"), [("sign", "#("), ("sign", "#("), ("name", "x")])

    def test_what_is_no_symbol(self):
        for text in ("#", "# a", "#3", "##a", "#:a", "#[", "#.", "#~", "#/", "#" + "a" * 41, "#" + "a" * 41 + ":"):
            self.assertEqual(self.place("x " + text), 2, text)
        self.assertEqual(self.place("#a:" + "b" * 41 + ":"), 3)

    def test_strings(self):
        self.assertEqual(words_of("'' '''' 'a''''b' 'c\n\"d'"), [
            ("str", "", 0), ("str", "'", 3), ("str", "a''b", 8), ("str", "c\n\"d", 17)])
        self.assertEqual(self.told("'a'#b'c'"), [("str", "a"), ("sym", "b"), ("str", "c")])

    def test_what_does_not_end(self):
        self.assertEqual(self.place("a 'bc"), 2)
        self.assertEqual(self.place("a 'b''"), 2)
        self.assertEqual(self.place("a 'b' '''"), 6)
        self.assertEqual(self.place("a #'bc''"), 2)
        self.assertEqual(self.place("a \"b"), 2)
        self.assertEqual(self.place("a \"b\" \"'"), 6)

    def test_characters_at_which_no_word_begins(self):
        for sign in "!$%&/?@\\_`{}~":
            self.assertEqual(self.place("ab " + sign + " c"), 3, sign)
            self.assertEqual(self.told("'" + sign + "'"), [("str", sign)])

    def test_the_first_one_is_told(self):
        self.assertEqual(self.place("a ! ? 'b"), 2)
        self.assertEqual(self.place("'b ! ?"), 0)

    def test_lengths(self):
        self.assertEqual(len(words_of("a " * 1000)), 1000)
        self.assertEqual(self.place("a " * 1000 + " "), -1)
        self.assertEqual(self.place("!" * 2001), -1)

    def test_characters_that_no_source_has(self):
        for sign in ("\t", "\r", "\x00", "\x1f", "\x7f", "\u00e4", "\u2028", "\ud800", "\U0001f600"):
            self.assertEqual(self.place("! 'a" + sign + "'"), -1, repr(sign))
        self.assertEqual(self.told("' ~'"), [("str", " ~")])

    def test_what_is_no_str(self):
        for thing in NO_SOURCES:
            self.assertEqual(self.place(thing), -1)

    def test_the_list_is_new(self):
        words = words_of("a b")
        words.append("c")
        words[0] = None
        self.assertEqual(words_of("a b"), [("name", "a", 0), ("name", "b", 2)])
        self.assertTrue(all(isinstance(word, tuple) for word in words_of("a b")))


if __name__ == "__main__":
    unittest.main()
