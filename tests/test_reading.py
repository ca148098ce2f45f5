"""Points 5 and 6: sources to trees."""

import unittest

from imagetalk.trees import read_body, read_method

X = ("var", "x")
Y = ("var", "y")


def n(value):
    return ("int", value)


def sent(subject, selector, *arguments):
    return ("send", subject, selector, arguments)


class ReadingTest(unittest.TestCase):
    def expression(self, text):
        tree = read_body(text)
        self.assertEqual(tree[:4], ("method", "doIt", (), ()))
        self.assertEqual(len(tree[4]), 1)
        return tree[4][0]

    def test_patterns(self):
        self.assertEqual(read_method("foo"), ("method", "foo", (), (), ()))
        self.assertEqual(read_method("Foo"), ("method", "Foo", (), (), ()))
        self.assertEqual(read_method("nil 3"), ("method", "nil", (), (), (n(3),)))
        self.assertEqual(read_method("+ other"), ("method", "+", ("other",), (), ()))
        self.assertEqual(read_method("- x"), ("method", "-", ("x",), (), ()))
        self.assertEqual(read_method("at: x"), ("method", "at:", ("x",), (), ()))
        self.assertEqual(read_method("at:x Put:y"), ("method", "at:Put:", ("x", "y"), (), ()))
        self.assertEqual(read_method("at: x y"), ("method", "at:", ("x",), (), (Y,)))
        self.assertEqual(read_method("\"c\" foo \"c\" x \"c\""), ("method", "foo", (), (), (X,)))

    def test_arguments_by_name(self):
        self.assertEqual(read_method(source="foo"), ("method", "foo", (), (), ()))
        self.assertEqual(read_body(source="x"), ("method", "doIt", (), (), (X,)))

    def test_variables(self):
        self.assertEqual(read_method("foo | a |"), ("method", "foo", (), ("a",), ()))
        self.assertEqual(read_method("foo | a b c | a"), ("method", "foo", (), ("a", "b", "c"), (("var", "a"),)))
        self.assertEqual(read_body("|a|-3"), ("method", "doIt", (), ("a",), (n(-3),)))

    def test_bodies(self):
        self.assertEqual(read_body(""), ("method", "doIt", (), (), ()))
        self.assertEqual(read_body(" \"c\" \n"), ("method", "doIt", (), (), ()))
        self.assertEqual(read_body("-3"), ("method", "doIt", (), (), (n(-3),)))
        self.assertEqual(read_body("foo bar"), ("method", "doIt", (), (), (sent(("var", "foo"), "bar"),)))

    def test_statements(self):
        for text, statements in (
                ("x.y", (X, Y)), ("x. y.", (X, Y)), ("x.", (X,)), ("^ x", (("return", X),)),
                ("^x.", (("return", X),)), ("x. ^ y", (X, ("return", Y))), ("^ x := y", (("return", ("set", "x", Y)),)),
                ("x. x. x", (X, X, X))):
            self.assertEqual(read_body(text)[4], statements, text)
            self.assertEqual(read_method("m " + text)[4], statements, text)
            self.assertEqual(self.expression("[" + text + "]"), ("block", (), (), statements), text)

    def test_literals(self):
        self.assertEqual(self.expression("7"), n(7))
        self.assertEqual(self.expression("-7"), n(-7))
        self.assertEqual(self.expression("'it''s'"), ("str", "it's"))
        self.assertEqual(self.expression("#at:put:"), ("sym", "at:put:"))
        self.assertEqual(self.expression("#'a b'"), ("sym", "a b"))
        self.assertEqual(self.expression("#nil"), ("sym", "nil"))
        for word in ("self", "nil", "true", "false", "Foo", "any"):
            self.assertEqual(self.expression(word), ("var", word))

    def test_arrays(self):
        self.assertEqual(self.expression("#()"), ("arr", ()))
        self.assertEqual(self.expression("#(1 -2 -3 'a' #b #c: #+ #'d e')"), ("arr", (
            n(1), n(-2), n(-3), ("str", "a"), ("sym", "b"), ("sym", "c:"), ("sym", "+"), ("sym", "d e"))))
        self.assertEqual(self.expression("#(a nil true false self super Foo #nil)"), ("arr", (
            ("sym", "a"), ("var", "nil"), ("var", "true"), ("var", "false"), ("sym", "self"), ("sym", "super"),
            ("sym", "Foo"), ("sym", "nil"))))
        self.assertEqual(self.expression("#(at:put: at: put: at:put a:b:c: #d:e: f:)"), ("arr", tuple(
            ("sym", text) for text in ("at:put:", "at:", "put:", "at:", "put", "a:b:c:", "d:e:", "f:"))))
        self.assertEqual(self.expression("#(+ - \\\\ ~~ - 3 , )"), ("arr", (
            ("sym", "+"), ("sym", "-"), ("sym", "\\\\"), ("sym", "~~"), ("sym", "-"), n(3), ("sym", ","))))
        self.assertEqual(self.expression("#(() (1 #(2)) #((x)))"), ("arr", (
            ("arr", ()), ("arr", (n(1), ("arr", (n(2),)))), ("arr", (("arr", (("sym", "x"),)),)))))

    def test_messages_bind_by_their_kind(self):
        self.assertEqual(self.expression("x foo bar"), sent(sent(X, "foo"), "bar"))
        self.assertEqual(self.expression("x + y * 3"), sent(sent(X, "+", Y), "*", n(3)))
        self.assertEqual(self.expression("x + y foo"), sent(X, "+", sent(Y, "foo")))
        self.assertEqual(self.expression("x a: y + 3 b: y foo"),
                         sent(X, "a:b:", sent(Y, "+", n(3)), sent(Y, "foo")))
        self.assertEqual(self.expression("x foo + y a: 3"), sent(sent(sent(X, "foo"), "+", Y), "a:", n(3)))
        self.assertEqual(self.expression("x a: (y b: 3)"), sent(X, "a:", sent(Y, "b:", n(3))))
        self.assertEqual(self.expression("x - -3"), sent(X, "-", n(-3)))
        self.assertEqual(self.expression("x -3"), sent(X, "-", n(3)))
        self.assertEqual(self.expression("x super"), sent(X, "super"))

    def test_parentheses(self):
        self.assertEqual(self.expression("(x)"), X)
        self.assertEqual(self.expression("((x + (y)))"), sent(X, "+", Y))
        self.assertEqual(self.expression("x + (y + 3)"), sent(X, "+", sent(Y, "+", n(3))))
        self.assertEqual(self.expression("(x a: y) foo"), sent(sent(X, "a:", Y), "foo"))
        self.assertEqual(self.expression("(x := y) foo"), sent(("set", "x", Y), "foo"))
        self.assertEqual(self.expression("x a: (y := z := 3)"),
                         sent(X, "a:", ("set", "y", ("set", "z", n(3)))))

    def test_sets(self):
        self.assertEqual(self.expression("x := y := 3 + 4"), ("set", "x", ("set", "y", sent(n(3), "+", n(4)))))
        self.assertEqual(self.expression("x:=y"), ("set", "x", Y))
        self.assertEqual(self.expression("x := y foo; bar"),
                         ("set", "x", ("cascade", Y, (("foo", ()), ("bar", ())))))

    def test_super(self):
        self.assertEqual(self.expression("super foo"), ("super", "foo", ()))
        self.assertEqual(self.expression("super foo bar"), sent(("super", "foo", ()), "bar"))
        self.assertEqual(self.expression("super + x + y"), sent(("super", "+", (X,)), "+", Y))
        self.assertEqual(self.expression("super a: x b: y + 3"), ("super", "a:b:", (X, sent(Y, "+", n(3)))))
        self.assertEqual(self.expression("x + super foo"), sent(X, "+", ("super", "foo", ())))
        self.assertEqual(self.expression("x a: super + y"), sent(X, "a:", ("super", "+", (Y,))))
        self.assertEqual(self.expression("(super a: x) b: y"), sent(("super", "a:", (X,)), "b:", Y))
        self.assertEqual(self.expression("super super"), ("super", "super", ()))

    def test_cascades(self):
        self.assertEqual(self.expression("x foo; bar"), ("cascade", X, (("foo", ()), ("bar", ()))))
        self.assertEqual(self.expression("x foo; + y; a: 3 b: y foo; bar"), ("cascade", X, (
            ("foo", ()), ("+", (Y,)), ("a:b:", (n(3), sent(Y, "foo"))), ("bar", ()))))
        self.assertEqual(self.expression("x foo bar; baz"), ("cascade", sent(X, "foo"), (("bar", ()), ("baz", ()))))
        self.assertEqual(self.expression("x + y foo; bar"),
                         ("cascade", X, (("+", (sent(Y, "foo"),)), ("bar", ()))))
        self.assertEqual(self.expression("x + y + 3; bar"),
                         ("cascade", sent(X, "+", Y), (("+", (n(3),)), ("bar", ()))))
        self.assertEqual(self.expression("x + y a: 3 + y; bar"),
                         ("cascade", sent(X, "+", Y), (("a:", (sent(n(3), "+", Y),)), ("bar", ()))))
        self.assertEqual(self.expression("(x foo) bar; baz"), ("cascade", sent(X, "foo"), (("bar", ()), ("baz", ()))))
        self.assertEqual(self.expression("super foo bar; baz"),
                         ("cascade", ("super", "foo", ()), (("bar", ()), ("baz", ()))))
        self.assertEqual(self.expression("x foo; a: super bar + 3; baz"), ("cascade", X, (
            ("foo", ()), ("a:", (sent(("super", "bar", ()), "+", n(3)),)), ("baz", ()))))
        self.assertEqual(self.expression("(x foo; bar) baz; bar"),
                         ("cascade", ("cascade", X, (("foo", ()), ("bar", ()))), (("baz", ()), ("bar", ()))))
        self.assertEqual(self.expression("[x] foo; bar"),
                         ("cascade", ("block", (), (), (X,)), (("foo", ()), ("bar", ()))))

    def test_blocks(self):
        for text, tree in (
                ("[]", ("block", (), (), ())), ("[x]", ("block", (), (), (X,))), ("[:a]", ("block", ("a",), (), ())),
                ("[: a :b | x]", ("block", ("a", "b"), (), (X,))), ("[|a b|]", ("block", (), ("a", "b"), ())),
                ("[:a || b | ]", ("block", ("a",), ("b",), ())), ("[:a | | b | x]", ("block", ("a",), ("b",), (X,))),
                ("[:a | ^ x.]", ("block", ("a",), (), (("return", X),))),
                ("[[:a | x] y]", ("block", (), (), (sent(("block", ("a",), (), (X,)), "y"),)))):
            self.assertEqual(self.expression(text), tree, text)

    def test_names_may_stand_again_in_blocks_side_by_side(self):
        block = ("block", ("a",), ("b",), (("set", "b", ("var", "a")),))
        self.assertEqual(self.expression("x a: [:a | | b | b := a] b: [:a | | b | b := a]"), sent(X, "a:b:", block, block))

    def test_parameters_up_to_twenty(self):
        names = ["p" + str(k) for k in range(20)]
        self.assertEqual(self.expression("[" + " ".join(":" + name for name in names) + "]"),
                         ("block", tuple(names), (), ()))
        tree = read_method(" ".join("k:" + name for name in names))
        self.assertEqual(tree, ("method", "k:" * 20, tuple(names), (), ()))

    def test_messages_may_have_more_arguments(self):
        tree = self.expression("x " + "k: 3 " * 50)
        self.assertEqual(tree, sent(X, "k:" * 50, *[n(3)] * 50))

    def test_selectors_of_a_hundred_characters(self):
        parts = ["a" * 24 + ":"] * 4
        self.assertEqual(self.expression("x " + " 3 ".join(parts) + " 3")[2], "".join(parts))
        names = ["p", "q", "r", "s"]
        tree = read_method(" ".join(part + " " + name for part, name in zip(parts, names)))
        self.assertEqual(tree[1:3], ("".join(parts), tuple(names)))

    def test_trees_are_tuples_throughout(self):
        def check(thing):
            self.assertIn(type(thing), (tuple, str, int))
            if isinstance(thing, tuple):
                for part in thing:
                    check(part)
        check(read_method("a: b | c | c := #(1 (x nil)). super foo. x foo; a: b. ^ [:d | | e | ^ d]"))

    def test_the_same_tree_again(self):
        source = "a: b | c | c := b foo; bar. ^ [:d | d]"
        self.assertEqual(read_method(source), read_method(source))

    def test_many_parentheses_around_an_expression(self):
        self.assertEqual(self.expression("(" * 999 + "x" + ")" * 999), X)
        self.assertEqual(self.expression("x + " + "(" * 900 + "y" + ")" * 900), sent(X, "+", Y))

    def test_many_things_side_by_side(self):
        self.assertEqual(len(read_body("x." * 1000)[4]), 1000)
        self.assertEqual(len(self.expression("#(" + "1 " * 990 + ")")[1]), 990)
        self.assertEqual(len(self.expression("x a" + ";a" * 990)[2]), 991)
        self.assertEqual(len(read_body("[]." * 600)[4]), 600)


if __name__ == "__main__":
    unittest.main()
