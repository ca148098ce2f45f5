"""Point 7: which objects are trees, and what is raised for those that are none; the size of trees."""

import unittest

from imagetalk.errors import BadTree
from imagetalk.trees import is_tree, read_body, read_method, tree_size, write_body, write_method

X = ("var", "x")
ANYTHING = (None, True, False, 0, 7, "", "method", "m ^ x", b"m", [], (), {}, {"method"}, object, ("method",), ("var", "x"),
            ("method", "m"), ("method", "m", (), ()), ("method", "m", (), (), (), ()), (None,) * 5, ((),) * 5)


def with_body(*statements):
    return ("method", "doIt", (), (), statements)


def nested(count):
    """A method with so many trees in one another, itself among them."""
    tree = X
    for _ in range(count - 2):
        tree = ("send", tree, "foo", ())
    return with_body(tree)


class FormsTest(unittest.TestCase):
    def no_tree(self, thing):
        self.assertIs(is_tree(thing), False, thing)
        for function in (write_method, write_body, tree_size):
            with self.assertRaises(BadTree):
                function(thing)

    def a_tree(self, thing):
        self.assertIs(is_tree(thing), True, thing)
        self.assertEqual(read_method(write_method(thing)), thing)

    def test_trees_that_were_read(self):
        for source in ("m", "+ x ^x", "a: x b: y | z | z := x. ^[:w | | v | v := w foo; bar: #(1 'a' b nil (c))]",
                       "m super foo. super a: 3", "m x := y := -3"):
            self.assertIs(is_tree(read_method(source)), True)
            self.assertIs(is_tree(thing=read_method(source)), True)

    def test_any_other_objects(self):
        for thing in ANYTHING:
            self.no_tree(thing)
            self.no_tree(with_body(thing) if thing != X else with_body([thing]))

    def test_lists_in_the_place_of_tuples(self):
        tree = read_method("a: x | y | y := x foo: 3. x foo; bar: #(1). ^[:z | super foo: z]")

        def listed(thing):
            """The tree with a list in the place of each of its tuples, one at a time."""
            if isinstance(thing, tuple):
                yield list(thing)
                for place, part in enumerate(thing):
                    for changed in listed(part):
                        yield (*thing[:place], changed, *thing[place + 1:])
        found = list(listed(tree))
        self.assertGreater(len(found), 20)
        for thing in found:
            self.no_tree(thing)

    def test_wrong_lengths(self):
        for tree in (X, ("int", 3), ("str", "a"), ("sym", "a"), ("arr", ()), ("set", "x", X), ("send", X, "foo", ()),
                     ("super", "foo", ()), ("cascade", X, (("foo", ()), ("bar", ()))), ("block", (), (), ())):
            self.a_tree(with_body(tree))
            self.no_tree(with_body(tree[:-1]))
            self.no_tree(with_body((*tree, ())))
            self.no_tree(with_body((*tree, tree[-1])))
        self.a_tree(with_body(("return", X)))
        self.no_tree(with_body(("return",)))
        self.no_tree(with_body(("return", X, X)))

    def test_kinds_that_do_not_stand_there(self):
        for tree in (("method", "m", (), (), ()), ("return", X), ("foo", X), ("name", "x"), (1, 2), ((), ())):
            self.no_tree(with_body(("set", "x", tree)))
            self.no_tree(with_body(tree, X))
            self.no_tree(with_body(("send", tree, "foo", ())))
            self.no_tree(with_body(("send", X, "a:", (tree,))))
            self.no_tree(with_body(("super", "a:", (tree,))))
            self.no_tree(with_body(("cascade", X, (("foo", ()), ("a:", (tree,))))))
            self.no_tree(with_body(("arr", (tree,))))
        self.no_tree(with_body(("return", ("return", X))))
        self.a_tree(with_body(("block", (), (), (X, ("return", X))), ("return", X)))

    def test_integers(self):
        for number in (0, -1, 10 ** 60 - 1, 1 - 10 ** 60):
            self.a_tree(with_body(("int", number)))
            self.a_tree(with_body(("arr", (("int", number),))))
        for thing in (True, False, None, "3", 10 ** 60, -10 ** 60, 10 ** 5000, (3,)):
            self.no_tree(with_body(("int", thing)))
            self.no_tree(with_body(("arr", (("int", thing),))))

    def test_strings_and_symbols(self):
        for kind in ("str", "sym"):
            for text in ("", " ", "~", "\n", "'", "nil", "at:", "a" * 5000):
                self.assertIs(is_tree(with_body((kind, text))), True)
                self.assertIs(is_tree(with_body(("arr", ((kind, text),)))), True)
            for thing in ("\t", "\x7f", "\u00e4", "\ud800", None, 3, b"a", ["a"]):
                self.no_tree(with_body((kind, thing)))
                self.no_tree(with_body(("arr", ((kind, thing),))))

    def test_arrays(self):
        for name in ("nil", "true", "false"):
            self.a_tree(with_body(("arr", (("var", name), ("arr", (("var", name),))))))
        for thing in (("var", "self"), ("var", "x"), ("var", None), ("send", X, "foo", ()), ("block", (), (), ()), 3, "a"):
            self.no_tree(with_body(("arr", (thing,))))
        for thing in (None, 3, "ab", [("int", 3)]):
            self.no_tree(with_body(("arr", thing)))

    def test_names_that_are_read(self):
        for name in ("self", "nil", "true", "false", "Foo", "x", "a" * 40, "x1"):
            self.a_tree(with_body(("var", name)))
        for thing in ("super", "", "a" * 41, "1x", "x:", "a b", "a_b", "\u00e4", None, 3, ["x"]):
            self.no_tree(with_body(("var", thing)))

    def test_names_that_are_set(self):
        self.a_tree(with_body(("set", "x", X)))
        self.a_tree(("method", "m", (), ("x",), (("set", "x", X), ("block", (), (), (("set", "x", X),)))))
        for thing in ("self", "super", "nil", "true", "false", "Foo", "", "a" * 41, "x:", None, 3, ["x"]):
            self.no_tree(with_body(("set", thing, X)))
        self.no_tree(("method", "a:", ("x",), (), (("set", "x", X),)))
        self.no_tree(("method", "a:", ("x",), (), (("block", (), (), (("set", "x", X),)),)))
        self.no_tree(with_body(("block", ("x",), (), (("block", (), (), (("set", "x", X),)),))))
        self.a_tree(with_body(("block", ("x",), (), ()), ("set", "x", X)))

    def test_names_that_are_declared(self):
        for thing in ("self", "super", "nil", "true", "false", "Foo", "", "a" * 41, "x:", None, 3, True, ["x"]):
            self.no_tree(("method", "a:", (thing,), (), ()))
            self.no_tree(("method", "m", (), (thing,), ()))
            self.no_tree(with_body(("block", (thing,), (), ())))
            self.no_tree(with_body(("block", (), (thing,), ())))
        for parameters, variables in ((("x", "x"), ()), ((), ("x", "x")), (("x",), ("x",))):
            self.no_tree(with_body(("block", parameters, variables, ())))
            self.no_tree(("method", "a:" * len(parameters) or "m", parameters, variables, ()))
        for inner in (("block", ("x",), (), ()), ("block", (), ("x",), ()), ("block", (), (), (("block", ("x",), (), ()),))):
            self.no_tree(("method", "a:", ("x",), (), (inner,)))
            self.no_tree(("method", "m", (), ("x",), (inner,)))
            self.a_tree(with_body(inner, inner))
        self.no_tree(("method", "m", "x", (), ()))
        self.no_tree(("method", "m", (), "x", ()))

    def test_parameters(self):
        names = tuple("p" + str(k) for k in range(21))
        self.a_tree(("method", "k:" * 20, names[:20], (), ()))
        self.no_tree(("method", "k:" * 21, names, (), ()))
        self.a_tree(with_body(("block", names[:20], (), ())))
        self.no_tree(with_body(("block", names, (), ())))
        self.a_tree(with_body(("block", (), names, ())))
        for selector, parameters in (("m", ("x",)), ("+", ()), ("+", ("x", "y")), ("a:", ()), ("a:b:", ("x",))):
            self.no_tree(("method", selector, parameters, (), ()))

    def test_selectors(self):
        for selector, count in (("foo", 0), ("Foo", 0), ("nil", 0), ("super", 0), ("a" * 40, 0), ("+", 1), ("~~", 1), ("a:", 1),
                                ("a:B:", 2), ("k:" * 50, 50), (("a" * 24 + ":") * 4, 4), ("a" * 40 + ":", 1)):
            self.a_tree(with_body(("send", X, selector, (X,) * count)))
            self.a_tree(with_body(("super", selector, (X,) * count)))
            self.a_tree(with_body(("cascade", X, ((selector, (X,) * count), (selector, (X,) * count)))))
            self.no_tree(with_body(("send", X, selector, (X,) * (count + 1))))
            self.no_tree(with_body(("super", selector, (X,) * (count + 1))))
            self.no_tree(with_body(("cascade", X, (("foo", ()), (selector, (X,) * (count + 1))))))
        for selector, count in (("", 0), ("a" * 41, 0), ("1a", 0), ("a b", 0), ("!", 1), ("/", 1), ("+-", 1), (":", 1),
                                ("a::", 2), ("a:b", 1), ("a:b", 2), ("k:" * 51, 51), ("a" * 41 + ":", 1), (None, 0), (3, 0),
                                (["foo"], 0), (True, 0), (("a" * 24 + ":") * 3 + "a" * 25 + ":", 4)):
            self.no_tree(with_body(("send", X, selector, (X,) * count)))
            self.no_tree(with_body(("super", selector, (X,) * count)))
            self.no_tree(with_body(("cascade", X, (("foo", ()), (selector, (X,) * count)))))
            self.no_tree(("method", selector, ("x", "y", "z", "w")[:count], (), ()))

    def test_cascades(self):
        for messages in ((), (("foo", ()),), (("foo", ()), ("bar",)), (("foo", ()), ("bar", (), ())), ("foo", "bar"),
                         (("foo", ()), None), None, 3):
            self.no_tree(with_body(("cascade", X, messages)))
        self.no_tree(with_body(("cascade", ("var", "super"), (("foo", ()), ("bar", ())))))
        self.a_tree(with_body(("cascade", ("super", "foo", ()), (("foo", ()), ("bar", ())))))

    def test_forty_within_one_another(self):
        self.a_tree(nested(40))
        self.no_tree(nested(41))
        self.no_tree(nested(150))
        array = ("arr", ())
        for _ in range(38):
            array = ("arr", (array,))
        self.a_tree(with_body(array))
        self.no_tree(with_body(("arr", (array,))))
        self.no_tree(with_body(("return", array)))
        item = ("arr", (("var", "nil"),))
        for _ in range(37):
            item = ("arr", (item,))
        self.a_tree(with_body(item))
        self.no_tree(with_body(("arr", (item,))))
        deep = nested(39)[4][0]
        self.a_tree(with_body(("super", "a:", (deep,))))
        self.a_tree(with_body(("set", "x", deep)))
        self.a_tree(with_body(("cascade", deep, (("foo", ()), ("bar", ())))))
        self.a_tree(with_body(("send", X, "a:", (deep,))))
        self.a_tree(with_body(("cascade", X, (("foo", ()), ("a:", (deep,))))))
        self.a_tree(with_body(("block", (), (), (deep,))))
        self.a_tree(with_body(("return", deep)))
        for outer in (("send", X, "a:", (nested(40)[4][0],)), ("super", "a:", (nested(40)[4][0],)), ("cascade", X, (("a:", (nested(40)[4][0],)), ("foo", ()))),
                      ("block", (), (), (nested(40)[4][0],)), ("return", nested(40)[4][0]), ("set", "x", nested(40)[4][0]),
                      ("block", (), (), (("return", deep),))):
            self.no_tree(with_body(outer))

    def test_any_number_of_statements_and_variables(self):
        names = tuple("v" + str(k) for k in range(3000))
        self.assertIs(is_tree(("method", "m", (), names, (X,) * 5000)), True)


class SizeTest(unittest.TestCase):
    def test_sizes(self):
        for source, size in (("", 1), ("x", 2), ("^ x", 3), ("x := 3", 3), ("x foo: y", 4), ("super foo: y", 3), ("super foo", 2),
                             ("x foo; bar", 3), ("x foo; a: 3 b: 4; + y", 6), ("[]", 2), ("[:a | | b | a. ^ b]", 5),
                             ("#()", 2), ("#(1 nil a (2 'b'))", 8), ("'a'. #b. -3", 4), ("((x))", 2)):
            self.assertEqual(tree_size(read_body(source)), size, source)
        self.assertEqual(tree_size(tree=read_method("a: x b: y x + y")), 4)

    def test_long_trees(self):
        self.assertEqual(tree_size(with_body(*[X] * 5000)), 5001)
        self.assertEqual(tree_size(nested(40)), 40)


if __name__ == "__main__":
    unittest.main()
