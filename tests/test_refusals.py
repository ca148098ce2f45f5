"""Point 6: what bars a source, with its place, and the depth of trees."""

import unittest

from imagetalk.errors import BadSource, TooMany
from imagetalk.trees import read_body, read_method

NO_SOURCES = (None, True, 7, b"x", ["x"], ("x",), {"x": 1}, object, "x\t", "\u00e4", "x" * 2001, " " * 2001)


class RefusalsTest(unittest.TestCase):
    def place(self, source, read=read_body):
        with self.assertRaises(BadSource) as caught:
            read(source)
        return caught.exception.place

    def marked(self, text, read=read_body):
        """Each `!` of the text stands directly ahead of the word that is barred, or at the end."""
        self.assertEqual(self.place(text.replace("!", "", 1), read), text.index("!"), text)

    def test_what_is_no_source(self):
        for read in (read_method, read_body):
            for thing in NO_SOURCES:
                self.assertEqual(self.place(thing, read), -1)

    def test_words_come_first(self):
        self.assertEqual(self.place(") 'a"), 2)
        self.assertEqual(self.place("self := 3. \"", read_method), 11)
        self.assertEqual(self.place("3 ~", read_method), 2)

    def test_patterns(self):
        for text in ("!", "  !", "!3", "!-3", "!(", "!^", "!'a' foo", "!#a", "!:x", "!| a |", "+ !", "+ !3", "+ !a: x",
                     "a: !", "a: x b: !", "a: !3", "a: x b: !+", "a: !b: c", "foo bar := !", "foo !+ a", "foo !b: x"):
            self.marked(text, read_method)
        self.marked("m !-3", read_method)
        self.marked("a: x !-3", read_method)
        self.marked("+ x !-3", read_method)

    def test_ends_that_come_too_early(self):
        for text in ("^ !", "x := !", "x + !", "x a: !", "x a: 3 b: !", "(!", "(x !", "(x foo !", "[!", "[x !", "[x. !",
                     "[^ x !", "[^ x. !", "[: !", "[:a !", "[:a | !", "[:a | | !", "[:a | | b !", "[:a | | b | !",
                     "| !", "| a !", "#( !", "#( 1 ( 2 ) !", "x foo; !", "x foo; + !", "x foo; a: !", "super + !",
                     "super a: !", "x \"c\" + \"c\" !", "x + \n\n!"):
            self.marked(text)

    def test_words_that_cannot_stand_where_they_stand(self):
        for text in ("!.", "x. !.", "x !]", "x !)", "(x !]", "(x !.", "[x !)", "x !^ y", "x := !^ y", "(!^ x)", "^ !^ x",
                     "^ x. !y", "^ x. !.", "^ x !^ y", "[^ x. !y]", "!+ x", "x + !+ y", "x + !a: y", "!a: x", "x y !:= 3",
                     "x !7", "x !'a'", "x !#a", "x !#(1)", "x !(y)", "x ![y]", "7 !7", "x !| a |", "| a | !| b |",
                     "| !|", "| a !3 |", "x !:a", "!)", "!]", "!;", "!:", "!:=", "x foo !:= 3", "3 !:= 4",
                     "x + y !:= 3", "x a: y !:= 3", "x !':='", "x !#':='", "(x) !:= 3", "x := 3 !:= 4"):
            self.marked(text)

    def test_blocks(self):
        for text in ("[:x | !]", "[:x !y]", "[:x !. y]", "[:x :!3]", "[: !]", "[:x | | !]", "[:x | | a | !| ]",
                     "[!.]", "[x !:y]", "[| !]", "[| a !]", "[x. !.]", "[:x | !.]", "[:!x: y]", "[:x | y !|]"):
            self.marked(text)

    def test_arrays(self):
        for text in ("#(!:= 1)", "#(a !:= 1)", "#(![1])", "#(1 !])", "#(!^)", "#(!.)", "#(!;)", "#(!|)", "#(!: a)",
                     "#(1) !)", "#(1) !#(2)", "#(a: !:= b)"):
            self.marked(text)

    def test_parameters_and_variables_that_stand_already(self):
        for text in ("a: x b: !x", "a: x | !x |", "m | a !a |", "m | a b !a |", "m | a | [:!a]", "a: x [:!x]",
                     "a: x [| !x |]", "m [:a :!a]", "m [:a | | !a | a]", "m [:a | [:!a]]", "m [:a | [[| !a |]]]",
                     "m [| a | [:b | | !a | ]]", "m [:a]. [:a]. [:b :!b]"):
            self.marked(text, read_method)

    def test_parameters_and_variables_that_cannot_be(self):
        for name in ("self", "super", "nil", "true", "false", "Foo", "A"):
            for text in ("a: !NAME", "+ !NAME", "a: x b: !NAME", "m | !NAME |", "m | a !NAME |", "m [:!NAME]",
                         "m [:a :!NAME | a]", "m [| !NAME |]"):
                self.marked(text.replace("NAME", name), read_method)

    def test_names_that_cannot_be_set(self):
        for name in ("self", "super", "nil", "true", "false", "Foo", "A"):
            for text in ("m !NAME := 3", "m ^ !NAME := 3", "m x := !NAME := 3", "m (!NAME := 3)", "m [!NAME := 3]"):
                self.marked(text.replace("NAME", name), read_method)
        for text in ("a: x !x := 3", "+ x y := !x := 3", "m [:x | !x := 3]", "a: x [!x := 3]", "m [:x | [[!x := 3]]]"):
            self.marked(text, read_method)
        self.assertEqual(read_method("m [:x | y]. x := 3")[4][1], ("set", "x", ("int", 3)))

    def test_a_set_that_cannot_stand_bars_first_at_its_sign(self):
        self.marked("x + self !:= 3")
        self.marked("x a: nil !:= 3")

    def test_super_without_a_message(self):
        for text in ("!super", "^ !super", "!super. x", "x := !super", "(!super) foo", "[!super]", "!super )", "!super 3",
                     "!super; foo", "!super := 3", "x + !super", "x + !super + y", "x + !super a: y", "x a: !super",
                     "x a: !super b: y", "x foo; + !super", "x foo; + !super + y", "x foo; a: !super b: y", "!super ^"):
            self.marked(text)

    def test_cascades(self):
        for text in ("x !; foo", "3 !; foo", "(x foo) !; bar", "(x + y) !; bar", "x := y !; foo", "[x] !; foo",
                     "super foo !; bar", "super + x !; bar", "super a: x foo !; bar", "#(1) !; foo", "(x !; foo)",
                     "(x foo; bar) !; baz", "x foo; !; bar", "x foo; !3", "x foo; !(y)", "x foo; !.", "(x foo; !)",
                     "x foo; bar !baz", "x foo; bar !+ y", "x foo; bar !a: y", "x foo; + y !+ y", "x foo; + y !a: y",
                     "x foo; a: y bar !^", "x foo; bar !:= y", "x foo; bar !y := 3", "x foo; !#a"):
            self.marked(text)

    def test_the_twenty_first_parameter(self):
        names = ["p" + str(k) for k in range(20)]
        method = " ".join("k:" + name for name in names)
        block = "[" + " ".join(":" + name for name in names)
        self.marked(method + " k: !q", read_method)
        self.marked(method + " k: !p0", read_method)
        self.marked(method + " k: !", read_method)
        self.marked(method + " k: !3", read_method)
        self.marked(block + " :!q]")
        self.marked(block + " :!q: x]")

    def test_selectors_of_more_than_a_hundred_characters(self):
        parts = ["a" * 24 + ":"] * 4
        self.marked("x " + " 3 ".join(parts) + " 3 !b: 3")
        self.marked("x foo; " + " 3 ".join(parts) + " 3 !b: 3")
        self.marked("super " + " 3 ".join(parts) + " 3 !b: 3. ^ ^")
        self.marked(" ".join(part + name for part, name in zip(parts, "pqrs")) + " !b: x", read_method)
        self.marked("x " + "k: 3 " * 50 + "!k: 3")
        self.marked("x " + " 3 ".join(parts[:3]) + " 3 !" + "a" * 25 + ": 3")
        read_body("x a: (x " + " 3 ".join(parts) + " 3) b: (x " + " 3 ".join(parts) + " 3)")
        read_body("x " + " 3 ".join(parts) + " 3; " + " 3 ".join(parts) + " 3")

    def test_the_least_place_is_told(self):
        for text in ("m x := !Foo := self := )", "m !super )", "a: x !x := super", "m [:a | !a := ]", "m !self := super",
                     "m x !; foo: super", "m x + !super. nil := 3", "a: !self b: self"):
            self.marked(text, read_method)

    def test_forty_trees_within_one_another(self):
        for start, step, end, closing, most in (
                ("x", " foo", "", "", 38), ("x", " + y", "", "", 38), ("", "y := ", "x", "", 38),
                ("", "x a: (", "x", ")", 38), ("", "[", "", "]", 39), ("", "[x. ", "x", "]", 38),
                ("", "super a: (", "x", ")", 38), ("", "[^ ", "x", "]", 19)):
            read_body(start + step * most + end + closing * most)
            with self.assertRaises(TooMany):
                read_body(start + step * (most + 1) + end + closing * (most + 1))
            with self.assertRaises(TooMany):
                read_method("m " + start + step * (most + 1) + end + closing * (most + 1))

    def test_forty_arrays_and_items(self):
        def arrays(count, item):
            return "#(" + "(" * (count - 1) + item + ")" * count
        read_body(arrays(39, ""))
        read_body(arrays(38, "1"))
        read_body("^ " + arrays(38, ""))
        for text in (arrays(40, ""), arrays(39, "1"), "^ " + arrays(39, "")):
            with self.assertRaises(TooMany):
                read_body(text)

    def test_parentheses_are_no_trees(self):
        read_body("(" * 500 + "x" + " foo" * 38 + ")" * 500)
        with self.assertRaises(TooMany):
            read_body("(" * 500 + "x" + " foo" * 39 + ")" * 500)

    def test_a_cascade_is_one_tree(self):
        read_body("x" + " foo" * 38 + "; bar")
        read_body("x foo; a: (" + "y" + " foo" * 37 + ")")
        with self.assertRaises(TooMany):
            read_body("x foo; a: (" + "y" + " foo" * 38 + ")")

    def test_bad_source_comes_ahead_of_too_many(self):
        self.marked("x" + " foo" * 100 + " !]")
        self.marked("[" * 100 + "x" + "]" * 99 + "!")

    def test_deep_and_long_chains(self):
        for text in ("x" + " a" * 999, "x" + "+x" * 999, "x:=" * 660 + "x", "[" * 1000 + "]" * 1000,
                     "#(" + "(" * 998 + ")" * 999, "x a:(" * 300 + "x" + ")" * 300, "([" * 499 + "])" * 499,
                     "[:a|" + "[" * 990 + "a" + "]" * 991, "^" + "[^" * 600 + "x" + "]" * 600,
                     "super a:(" * 199 + "x" + ")" * 199):
            self.assertLessEqual(len(text), 2000)
            with self.assertRaises(TooMany):
                read_body(text)
        for text in ("(" * 2000 + "!", "[" * 2000 + "!", "#(" * 1000 + "!", "x :=" * 500 + "!", "^[" * 1000 + "!",
                     "x " * 999 + "!)", "(" * 1999 + "!)", "[" * 1999 + "!)", "(x+" * 600 + "!]"):
            self.marked(text)


if __name__ == "__main__":
    unittest.main()
