"""Point 7: trees to texts."""

import unittest

from imagetalk.errors import BadTree
from imagetalk.trees import read_body, read_method, write_body, write_method


class WritingTest(unittest.TestCase):
    def body(self, text, written=None):
        """The text is written as told, and what is written is read back to the same tree."""
        tree = read_body(text)
        self.assertEqual(write_body(tree), text if written is None else written)
        self.assertEqual(read_body(write_body(tree)), tree)

    def method(self, text, written=None):
        tree = read_method(text)
        self.assertEqual(write_method(tree), text if written is None else written)
        self.assertEqual(read_method(write_method(tree)), tree)

    def test_the_example_of_the_document(self):
        self.method("m ^ #(#a #nil (1 'x') - at:)", "m ^#(a #nil (1 'x') - at:)")

    def test_arguments_by_name(self):
        self.assertEqual(write_method(tree=("method", "m", (), (), ())), "m")
        self.assertEqual(write_body(tree=("method", "doIt", (), (), ())), "")

    def test_patterns(self):
        for text in ("m", "Foo", "nil x", "+ x", "+ x x foo", "a: x", "a: x B: y x foo: y"):
            self.method(text)
        self.method("a:x\nb:y", "a: x b: y")

    def test_variables_and_statements(self):
        for text in ("| a | a", "| a bc d |", "x. y. ^x", "^x", "x", ""):
            self.body(text)
            self.method(("m " + text).strip())
        self.body("|a b|a.b.", "| a b | a. b")
        self.body("x . ^ y .", "x. ^y")

    def test_words_and_blanks(self):
        self.body("x\n  \"c\":= 3", "x := 3")
        self.body("x:=y:=3+4", "x := y := 3 + 4")
        self.body("x foo;bar;+3;at:4 put:5", "x foo; bar; + 3; at: 4 put: 5")
        self.body("^-3")
        self.body("^(x foo) bar", "^x foo bar")
        self.body("( x + 3 )foo", "(x + 3) foo")
        self.body("super  foo", "super foo")

    def test_blocks(self):
        for text in ("[]", "[:x]", "[:x :y]", "[:x | x]", "[:x | | a |]", "[:x :y | | a b | a. ^x]", "[| a |]", "[| a | a]",
                     "[x]", "[^x]", "[-3]", "[:x | -3]", "[[:x | [x]]]"):
            self.body(text)
        self.body("[ : x|x ]", "[:x | x]")

    def test_as_few_parentheses_as_can_be(self):
        for text in ("x foo bar", "(x + y) foo", "(x a: y) foo", "(x := y) foo", "(x foo; bar) baz", "x foo + y bar",
                     "x + y + z", "x + (y + z)", "x + (y a: z)", "x + (y := z)", "x + (y foo; bar)", "(x a: y) + z",
                     "(x := y) + z", "(x foo; bar) + z", "x + y a: z + w", "(x a: y) a: z", "x a: (y a: z)",
                     "x a: (y := z)", "x a: (y foo; bar)", "(x foo; bar) a: z", "(x := y) a: z", "x a: y foo b: z bar",
                     "x := y := z a: w", "x := y foo; bar", "^x := y", "^x foo; bar", "[x := y] foo", "#(1) foo", "#a foo",
                     "'a' foo", "3 foo", "-3 foo", "x - -3", "x - -3 - -3", "super foo bar",
                     "super + x + y", "(super a: x) b: y", "(super + x) foo", "x + super foo", "x + (super + y)",
                     "x a: super + y", "x a: (super b: y)", "[:x | x] foo: [y]"):
            self.body(text)
        for text, written in (("((x) foo)", "x foo"), ("(x foo) + (y bar)", "x foo + y bar"), ("(x + y) + z", "x + y + z"),
                              ("(x + y) a: (z + w)", "x + y a: z + w"), ("x := (y := (z))", "x := y := z"),
                              ("^(x foo; bar)", "^x foo; bar"), ("(x foo; bar)", "x foo; bar"), ("(x := 3)", "x := 3"),
                              ("x a: (y foo) b: (#(1))", "x a: y foo b: #(1)"), ("(super + x) + y", "super + x + y"),
                              ("[(x a: y)]", "[x a: y]"), ("(-3) foo", "-3 foo"), ("x + (3)", "x + 3")):
            self.body(text, written)

    def test_cascades(self):
        for text in ("x foo; bar", "x foo bar; baz", "x + y foo; bar", "x + y + z; bar", "x + y a: z; bar",
                     "(x foo; bar) baz; bar", "(x foo; bar) + 3; bar", "(x a: y) foo; bar", "(x a: y) + z; bar",
                     "(x a: y) b: z; bar", "(x + y) foo; bar", "(x := y) foo; bar", "super foo bar; baz", "x foo; + y foo",
                     "x foo; + (y + z)", "x foo; a: y + z b: (w c: x)", "x foo; a: (y foo; bar)"):
            self.body(text)
        self.body("(x foo) bar; + (y foo); a: (y + z)", "x foo bar; + y foo; a: y + z")

    def test_negative_integers_behind_the_pattern(self):
        for text in ("m (-3)", "m (-3) foo", "m (-3) + 4", "m (-3) foo + 4 a: 5", "m (-3) foo; bar", "m (-3 + 4) foo",
                     "m (-3 a: 4) + 5", "m (-3). -4", "m ^-3", "m x := -3", "m 3. -3", "m | a | -3", "m [-3]", "m #(-3)",
                     "+ x (-3)", "a: x (-3)", "m 3 - -3", "m (-3) - -3"):
            self.method(text)
        for text in ("-3", "-3 foo", "-3 + 4", "-3 foo; bar", "-3. -4"):
            self.body(text)
        self.body("(-3) foo", "-3 foo")

    def test_arrays(self):
        for text in ("#()", "#(1 2)", "#(1 -2 - 3)", "#(() (()) (1 (2) 'a'))", "#(nil true false)", "#(#nil #true #false)",
                     "#(self super Foo a1)", "#(at: put: at:put: a)", "#(+ - * // \\\\ < > <= >= = == ~= ~~ ,)",
                     "#(#'' #'a b' #'it''s' #'a:b' #':' #'#a' #'3' #'-3' #'a:=' #'(')", "#('' 'a' '''' 'nil')"):
            self.body(text)
        self.body("#( #(1 #(2)) #a #at:put: #+ #'abc' #'a:b:' #'==')", "#((1 (2)) a at:put: + abc a:b: ==)")
        self.body("#(#'nil' #'self')", "#(#nil self)")
        self.body("#(" + "#'" + "a" * 40 + "' #'" + "a" * 41 + "')", "#(" + "a" * 40 + " #'" + "a" * 41 + "')")

    def test_symbols(self):
        for text in ("#a", "#Foo", "#nil", "#self", "#at:", "#at:put:", "#+", "#-", "#\\\\", "#,", "#''", "#'a b'", "#'it''s'",
                     "#'a:b'", "#'3'", "#':'", "#'at::'", "#'" + "a" * 41 + "'", "#'" + "a" * 41 + ":'"):
            self.body(text)
        self.body("#'abc'", "#abc")
        self.body("#'at:put:'", "#at:put:")
        self.body("#'=='", "#==")
        self.body("x a: #- b: #a: c: 3")
        self.body("#at: put: 3")

    def test_strings(self):
        self.body("'it''s' , '\n\"' , ''")
        self.assertEqual(write_body(("method", "doIt", (), (), (("str", "'"),))), "''''")

    def test_long_texts(self):
        tree = ("method", "m", (), (), tuple([("str", "a" * 3000)] * 3))
        self.assertEqual(write_method(tree), "m " + ". ".join(["'" + "a" * 3000 + "'"] * 3))

    def test_a_body_has_the_selector_do_it(self):
        self.assertEqual(write_body(read_method("doIt | a | ^ a")), "| a | ^a")
        for source in ("m", "doIt: x", "+ x", "doit"):
            with self.assertRaises(BadTree):
                write_body(read_method(source))


if __name__ == "__main__":
    unittest.main()
