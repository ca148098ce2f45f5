"""Point 8: questions about trees, and their names changed."""

import unittest

from imagetalk.errors import BadName, BadTree, Clash, NoName
from imagetalk.trees import read_body, read_method, write_method
from imagetalk.treeways import blocks_of, names_free, renamed, selectors_of

ANYTHING = (None, True, 7, "m", [], (), ("method", "m", (), ()), ["method", "m", (), (), ()], ("var", "x"),
            ("method", "m", (), (), (("int", True),)))
NO_NAMES = (None, True, 7, "", "x y", ["x"], ("x",), {}, "a" * 41, b"x", "x:", "+")


class NamesFreeTest(unittest.TestCase):
    def free(self, source):
        return names_free(read_method(source))

    def test_names_that_are_read_and_set(self):
        self.assertEqual(self.free("m"), [])
        self.assertEqual(self.free("m b := a. ^ Foo bar: c"), ["Foo", "a", "b", "c"])
        self.assertEqual(self.free("m a := a. a a: a"), ["a"])
        self.assertEqual(self.free("m x foo: y; + z; bar. super foo: w. ^ [v]"), ["v", "w", "x", "y", "z"])
        self.assertEqual(self.free("m B. b. a. A. a1. aB"), ["A", "B", "a", "a1", "aB", "b"])

    def test_the_five_words_and_items_of_arrays_are_none(self):
        self.assertEqual(self.free("m self. super foo. nil. true. false. #(a nil b: 'c' #d). #e"), [])

    def test_parameters_and_variables_are_none(self):
        self.assertEqual(self.free("a: x b: y | z | z := x. ^ z + y"), [])
        self.assertEqual(self.free("a: x ^ [:y | | z | z := x. [y + z]]"), [])

    def test_the_same_name_in_and_outside_of_a_block(self):
        self.assertEqual(self.free("m [:x | x]. ^ x"), ["x"])
        self.assertEqual(self.free("m x := 1. [| x | x := 2]"), ["x"])
        self.assertEqual(self.free("m [:x | x] foo: [:x | x]"), [])
        self.assertEqual(self.free("m [:x | x] foo: [:y | x]"), ["x"])
        self.assertEqual(self.free("m [:x | [:y | x + y]. y]"), ["y"])

    def test_the_list_is_new(self):
        tree = read_method("m a")
        names_free(tree).append("b")
        self.assertEqual(names_free(tree=tree), ["a"])


class SelectorsTest(unittest.TestCase):
    def test_all_messages(self):
        source = ("a: x x foo. x + 1. x at: 1 put: x bar. super baz. super a: 2. x one; two: 3; - 4. "
                  "[x in: [x deep]]. #(no #no: + no). #no. ^ (y := x last)")
        self.assertEqual(selectors_of(read_method(source)), sorted([
            "foo", "+", "at:put:", "bar", "baz", "a:", "one", "two:", "-", "in:", "deep", "last"]))

    def test_messages_done_in_place(self):
        source = "m x ifTrue: [x a] ifFalse: [x b]. [x c] whileTrue: [x d]. x and: [x e]. x ifTrue: y"
        self.assertEqual(selectors_of(read_method(source)), [
            "a", "and:", "b", "c", "d", "e", "ifTrue:", "ifTrue:ifFalse:", "whileTrue:"])

    def test_none_and_twice(self):
        self.assertEqual(selectors_of(read_method("foo: x ^ x")), [])
        self.assertEqual(selectors_of(tree=read_method("m x a. x a; a. super a")), ["a"])

    def test_the_list_is_new(self):
        tree = read_method("m x a")
        selectors_of(tree).append("b")
        self.assertEqual(selectors_of(tree), ["a"])


class RenamedTest(unittest.TestCase):
    def changed(self, source, name, other, written):
        tree = read_method(source)
        found = renamed(tree, name, other)
        self.assertEqual(found, read_method(written))
        self.assertEqual(renamed(found, other, name), tree)
        self.assertEqual(tree, read_method(source))

    def test_parameters_and_variables(self):
        self.changed("a: x ^ x", "x", "y", "a: y ^ y")
        self.changed("a: x b: z ^ x + z", "z", "y", "a: x b: y ^ x + y")
        self.changed("m | x z | x := z := x", "x", "y", "m | y z | y := z := y")
        self.changed("m ^ [:x | | z | z := x]", "x", "y", "m ^ [:y | | z | z := y]")
        self.changed("m ^ [:x | | z | z := x]", "z", "y", "m ^ [:x | | y | y := x]")

    def test_everywhere_it_is_read_and_set(self):
        source = ("m | x | x := 1. x foo: x; + x. super foo: x. [x := x. [:z | x]]. #(x nil 1). #x. 'x'. x x. "
                  "^ (x x: x) == (x := x)")
        written = ("m | y | y := 1. y foo: y; + y. super foo: y. [y := y. [:z | y]]. #(x nil 1). #x. 'x'. y x. "
                   "^ (y x: y) == (y := y)")
        self.changed(source, "x", "y", written)

    def test_all_parameters_and_variables_of_that_name(self):
        self.changed("m [:x | x] foo: [| x | x := 2]", "x", "y", "m [:y | y] foo: [| y | y := 2]")

    def test_not_where_it_is_free(self):
        tree = read_method("m [:x | x]. x := x + [:z | x]")
        self.assertEqual(renamed(tree, "x", "y"), read_method("m [:y | y]. x := x + [:z | x]"))

    def test_the_selector_stays(self):
        self.changed("x: x x x", "x", "y", "x: y y x")

    def test_by_name(self):
        self.assertEqual(renamed(tree=read_method("+ x"), name="x", other="y"), read_method("+ y"))

    def test_no_name(self):
        tree = read_method("a: x | z | foo := Foo. [:v | | w | self]")
        for name in ("foo", "Foo", "self", "nil", "a", "a:", "y", *NO_NAMES):
            with self.assertRaises(NoName):
                renamed(tree, name, "new")
        for name in ("x", "z", "v", "w"):
            self.assertIn("new", write_method(renamed(tree, name, "new")))

    def test_bad_name(self):
        tree = read_method("a: x")
        for other in ("self", "super", "nil", "true", "false", "Foo", "A", *[thing for thing in NO_NAMES]):
            with self.assertRaises(BadName):
                renamed(tree, "x", other)
        self.assertEqual(renamed(tree, "x", "a" * 40), read_method("a: " + "a" * 40))

    def test_clash(self):
        tree = read_method("a: x | z | foo := bar. [:v | | w | w]. #(c). x d")
        for other in ("x", "z", "foo", "bar", "v", "w"):
            with self.assertRaises(Clash):
                renamed(tree, "x", other)
        for other in ("a", "c", "d"):
            renamed(tree, "x", other)

    def test_the_order_of_errors(self):
        tree = read_method("a: x ^ z")
        for arguments, error in (((None, 3, 4), BadTree), ((None, "x", "x"), BadTree), ((tree, "z", "Foo"), NoName),
                                 ((tree, "z", "z"), NoName), ((tree, "x", "self"), BadName), ((tree, "x", "z"), Clash)):
            with self.assertRaises(error):
                renamed(*arguments)


class BlocksTest(unittest.TestCase):
    def blocks(self, source):
        return blocks_of(read_body(source))

    def test_depths_and_parameters(self):
        self.assertEqual(self.blocks("x"), [])
        self.assertEqual(self.blocks("[]"), [(0, 0, False)])
        self.assertEqual(self.blocks("[:a :b | [:c | []]]. [:d]"),
                         [(0, 2, False), (1, 1, False), (2, 0, False), (0, 1, False)])

    def test_the_order_of_the_text(self):
        source = ("[:a] foo: [:a :b] bar: (x + [:a :b :c]); baz: [:a :b :c :d]. x := super a: [:a :b :c :d :e]. "
                  "^ ([[:a :b] + [:a]] value; foo: []) + [:a :b :c]")
        self.assertEqual(self.blocks(source), [
            (0, 1, False), (0, 2, False), (0, 3, False), (0, 4, False), (0, 5, False), (0, 0, False), (1, 2, False),
            (1, 1, False), (0, 0, False), (0, 3, False)])

    def test_returns(self):
        self.assertEqual(self.blocks("^ [x]"), [(0, 0, False)])
        self.assertEqual(self.blocks("[^ x]"), [(0, 0, True)])
        self.assertEqual(self.blocks("[x. ^ [:a | a]]"), [(0, 0, True), (1, 1, False)])
        self.assertEqual(self.blocks("[[:a | ^ a]. x]. [[^ x] foo. ^ 1]"),
                         [(0, 0, False), (1, 1, True), (0, 0, True), (1, 0, True)])

    def test_truths_and_new_lists(self):
        tree = read_body("[^ x]")
        self.assertIs(blocks_of(tree=tree)[0][2], True)
        blocks_of(tree).clear()
        self.assertEqual(blocks_of(tree), [(0, 0, True)])


class NoTreesTest(unittest.TestCase):
    def test_bad_tree(self):
        for thing in ANYTHING:
            for function in (names_free, selectors_of, blocks_of):
                with self.assertRaises(BadTree):
                    function(thing)
            with self.assertRaises(BadTree):
                renamed(thing, "x", "y")


if __name__ == "__main__":
    unittest.main()
