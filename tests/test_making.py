"""Points 25 to 28: made methods, their form, and what the maker makes."""

import unittest

from cases import all_programs
from samples import BOX, NO_PROGRAMS, ZOO, deep, one

from imagetalk.codes import bodies_of, codes_many, is_made
from imagetalk.errors import BadClass, BadMade, BadProgram, BadSource, NoMethod, TooMany
from imagetalk.kernel import kernel_texts
from imagetalk.maker import made_of, make, make_main
from imagetalk.trees import read_method

FIELDS = ((one("F", fields=("n", "m"), class_fields=("c",)),), "")
NIL = ("const", "nil")
POP = ("pop",)
ANSWER = ("answer",)


def body_of(source, in_place=True):
    """The body of a method of F."""
    return make(FIELDS, "F", source, in_place=in_place)[2]


def codes_of(text):
    """Codes written as in a row, with a semicolon behind each one but the last."""
    codes = []
    for row in text.split("; "):
        words = row.split(" ")
        code = words[:1]
        for word in words[1:]:
            code.append({"yes": True, "no": False}.get(word, int(word) if word.lstrip("-").isdigit() else word))
        codes.append(tuple(code))
    return tuple(codes)


# Sources, how many variables there are, and the codes behind which no block comes.
FORMS = (
    ("m", 0, "self; answer"),
    ("m 3", 0, "int 3; pop; self; answer"),
    ("m ^ 3", 0, "int 3; answer"),
    ("m 3. ^ 4", 0, "int 3; pop; int 4; answer"),
    ("m ^ -3", 0, "int -3; answer"),
    ("m ^ 'a'", 0, "lit 0; answer"),
    ("m 'a'. 'a'. #a. #a. ^ #(a)", 0, "lit 0; pop; lit 1; pop; lit 2; pop; lit 2; pop; lit 3; answer"),
    ("m ^ self", 0, "self; answer"),
    ("m nil. true. ^ false", 0, "const nil; pop; const true; pop; const false; answer"),
    ("m ^ Object", 0, "class Object; answer"),
    ("m ^ F", 0, "class F; answer"),
    ("m ^ n", 0, "field 0; answer"),
    ("m ^ m", 0, "field 1; answer"),
    ("m n := m := 3", 0, "int 3; setfield 1; setfield 0; pop; self; answer"),
    ("a: x | y z | y := x. ^ z", 3, "temp 0 0; settemp 0 1; pop; temp 0 2; answer"),
    ("+ x ^ x", 1, "temp 0 0; answer"),
    ("m ^ 3 foo", 0, "int 3; send foo 0; answer"),
    ("m ^ 3 + 4 * 5", 0, "int 3; int 4; send + 1; int 5; send * 1; answer"),
    ("m ^ n at: 1 put: m", 0, "field 0; int 1; field 1; send at:put: 2; answer"),
    ("m ^ super foo", 0, "self; super foo 0; answer"),
    ("m ^ super + 3", 0, "self; int 3; super + 1; answer"),
    ("m ^ super at: 1 put: 2", 0, "self; int 1; int 2; super at:put: 2; answer"),
    ("m ^ n foo; + 3; at: 4", 0, "field 0; dup; send foo 0; pop; dup; int 3; send + 1; pop; int 4; send at: 1; answer"),
    ("m n foo bar; baz", 0, "field 0; send foo 0; dup; send bar 0; pop; send baz 0; pop; self; answer"),
    ("m ^ n ifTrue: [3]", 0, "field 0; test yes 4 5; int 3; jump 5; const nil; answer"),
    ("m ^ n ifFalse: [3]", 0, "field 0; test no 4 5; int 3; jump 5; const nil; answer"),
    ("m ^ n ifTrue: [3] ifFalse: [4]", 0, "field 0; test yes 4 5; int 3; jump 5; int 4; answer"),
    ("m ^ n ifFalse: [3] ifTrue: [4]", 0, "field 0; test no 4 5; int 3; jump 5; int 4; answer"),
    ("m ^ n and: [3]", 0, "field 0; test yes 4 5; int 3; jump 5; const false; answer"),
    ("m ^ n or: [3]", 0, "field 0; test no 4 5; int 3; jump 5; const true; answer"),
    ("m ^ [n] whileTrue: [3]", 0, "field 0; test yes 5 6; int 3; pop; jump 0; const nil; answer"),
    ("m ^ [n] whileFalse: [3]", 0, "field 0; test no 5 6; int 3; pop; jump 0; const nil; answer"),
    ("m [] whileTrue: []", 0, "const nil; test yes 5 6; const nil; pop; jump 0; const nil; pop; self; answer"),
    ("m ^ n ifTrue: [] ifFalse: []", 0, "field 0; test yes 4 5; const nil; jump 5; const nil; answer"),
    ("m n ifTrue: [^ 3]. ^ 4", 0, "field 0; test yes 5 6; int 3; answer; jump 6; const nil; pop; int 4; answer"),
    ("m ^ n ifTrue: [3. 4]", 0, "field 0; test yes 6 7; int 3; pop; int 4; jump 7; const nil; answer"),
    ("m ^ n ifTrue: [| a b | b]", 2,
     "field 0; test yes 10 11; const nil; settemp 0 0; pop; const nil; settemp 0 1; pop; temp 0 1; jump 11; const nil; answer"),
    ("k: p | a | n ifTrue: [| b | b] ifFalse: [| c | c]. n and: [| b | b]", 5,
     "field 0; test yes 7 11; const nil; settemp 0 2; pop; temp 0 2; jump 11; const nil; settemp 0 3; pop; temp 0 3; pop; "
     "field 0; test yes 18 19; const nil; settemp 0 4; pop; temp 0 4; jump 19; const false; pop; self; answer".replace(
         "test yes 18 19", "test yes 19 20").replace("jump 19", "jump 20")),
    ("m ^ [| a | a] whileTrue: [| b | b]", 2,
     "const nil; settemp 0 0; pop; temp 0 0; test yes 11 12; const nil; settemp 0 1; pop; temp 0 1; pop; jump 0; const nil; answer"),
    ("m ^ n ifTrue: [m ifTrue: [3]]", 0, "field 0; test yes 8 9; field 1; test yes 6 7; int 3; jump 7; const nil; jump 9; const nil; answer"),
)


class MakingTest(unittest.TestCase):
    def test_the_codes_of_each_form(self):
        for source, variables, text in FORMS:
            body = body_of(source)
            self.assertEqual(body[1:], (variables, codes_of(text), ()), source)
            self.assertEqual(body[0], len(read_method(source)[2]), source)

    def test_blocks(self):
        for source, codes, blocks in (
                ("m ^ []", "block 0; answer", ((0, 0, (NIL, ANSWER), ()),)),
                ("m ^ [3]", "block 0; answer", ((0, 0, (("int", 3), ANSWER), ()),)),
                ("m ^ [^ 3]", "block 0; answer", ((0, 0, (("int", 3), ("return",)), ()),)),
                ("m ^ [3. 4]", "block 0; answer", ((0, 0, (("int", 3), POP, ("int", 4), ANSWER), ()),)),
                ("m ^ [n ifTrue: [^ 3]]", "block 0; answer",
                 ((0, 0, codes_of("field 0; test yes 5 6; int 3; return; jump 6; const nil; answer"), ()),)),
                ("a: x ^ [:y :z | | t | t := x. y]", "block 0; answer", ((2, 3, codes_of("temp 1 0; settemp 0 2; pop; temp 0 0; answer"), ()),)),
                ("m [1]. ^ [2]", "block 0; pop; block 1; answer", ((0, 0, (("int", 1), ANSWER), ()), (0, 0, (("int", 2), ANSWER), ()))),
                ("m ^ [[3]. [4]]", "block 0; answer",
                 ((0, 0, codes_of("block 0; pop; block 1; answer"), ((0, 0, (("int", 3), ANSWER), ()), (0, 0, (("int", 4), ANSWER), ()))),)),
                ("m ^ n ifTrue: [[3]]", "field 0; test yes 4 5; block 0; jump 5; const nil; answer", ((0, 0, (("int", 3), ANSWER), ()),)),
                ("m ^ n ifTrue: 3", "field 0; int 3; send ifTrue: 1; answer", ()),
                ("m ^ n ifTrue: [:x]", "field 0; block 0; send ifTrue: 1; answer", ((1, 1, (NIL, ANSWER), ()),)),
                ("m ^ n ifTrue: [3]; ifFalse: [4]", "field 0; dup; block 0; send ifTrue: 1; pop; block 1; send ifFalse: 1; answer",
                 ((0, 0, (("int", 3), ANSWER), ()), (0, 0, (("int", 4), ANSWER), ()))),
                ("m ^ super and: [3]", "self; block 0; super and: 1; answer", ((0, 0, (("int", 3), ANSWER), ()),)),
                ("m ^ n whileTrue: [3]", "field 0; block 0; send whileTrue: 1; answer", ((0, 0, (("int", 3), ANSWER), ()),)),
                ("m ^ [n] whileTrue: n", "block 0; field 0; send whileTrue: 1; answer", ((0, 0, (("field", 0), ANSWER), ()),)),
                ("m | t | n ifTrue: [[t]]", "field 0; test yes 4 5; block 0; jump 5; const nil; pop; self; answer",
                 ((0, 0, (("temp", 1, 0), ANSWER), ()),)),
                ("m n ifTrue: [| t | [t := 3]]", "field 0; block 0; send ifTrue: 1; pop; self; answer",
                 ((0, 1, (("block", 0), ANSWER), ((0, 0, (("int", 3), ("settemp", 1, 0), ANSWER), ()),)),)),
                ("m ^ [:x | n ifTrue: [| t | t := x. [x]]]", "block 0; answer",
                 ((1, 2, codes_of("field 0; test yes 9 10; const nil; settemp 0 1; pop; temp 0 0; settemp 0 1; pop; block 0; jump 10; const nil; "
                                  "answer".replace("9 10", "10 11").replace("jump 10", "jump 11")),
                   ((0, 0, (("temp", 1, 0), ANSWER), ()),)),))):
            body = body_of(source)
            self.assertEqual(body[2:], (codes_of(codes), blocks), source)

    def test_not_in_place(self):
        for source, codes in (("m ^ n ifTrue: [3]", "field 0; block 0; send ifTrue: 1; answer"),
                              ("m ^ [n] whileTrue: [3]", "block 0; block 1; send whileTrue: 1; answer"),
                              ("m ^ n and: [m or: [3]]", "field 0; block 0; send and: 1; answer"),
                              ("m ^ 3 + 4", "int 3; int 4; send + 1; answer")):
            self.assertEqual(body_of(source, False)[2], codes_of(codes), source)

    def test_literals(self):
        made = make(FIELDS, "F", "m #(a 'b'). [#a. 'b']. n ifTrue: ['b']. #a. ^ #(a 'b')")
        self.assertEqual(made[1], (("arr", (("sym", "a"), ("str", "b"))), ("sym", "a"), ("str", "b"), ("str", "b"),
                                   ("arr", (("sym", "a"), ("str", "b")))))
        self.assertEqual(made[2][3][0][2], codes_of("lit 1; pop; lit 2; answer"))
        self.assertEqual(make(FIELDS, "F", "m 3. nil. ^ 4")[1], ())

    def test_example(self):
        self.assertEqual(make(FIELDS, "F", "max: k   n < k ifTrue: [^ k]. ^ n"), ("max:", (), (1, 1, (
            ("field", 0), ("temp", 0, 0), ("send", "<", 1), ("test", True, 7, 8), ("temp", 0, 0), ANSWER, ("jump", 8), NIL, POP, ("field", 0),
            ANSWER), ())))
        self.assertEqual(make(FIELDS, "F", "adder   ^ [:x | [:y | n := n + x + y]]"), ("adder", (), (0, 0, (("block", 0), ANSWER), (
            (1, 1, (("block", 0), ANSWER), ((1, 1, (("field", 0), ("temp", 1, 0), ("send", "+", 1), ("temp", 0, 0), ("send", "+", 1),
                                                    ("setfield", 0), ANSWER), ()),)),))))
        self.assertEqual(body_of("upTo: k   | i |   i := 0. [i < k] whileTrue: [i := i + 1. n := n + i]"), (1, 2, codes_of(
            "int 0; settemp 0 1; pop; temp 0 1; temp 0 0; send < 1; test yes 18 19; temp 0 1; int 1; send + 1; settemp 0 1; pop; field 0; "
            "temp 0 1; send + 1; setfield 0; pop; jump 3; const nil; pop; self; answer"), ()))

    def test_class_methods_and_fields_from_above(self):
        self.assertEqual(make(FIELDS, "F class", "m ^ c")[2][2], (("field", 0), ANSWER))
        program = ((one("F", fields=("n", "m")), one("G", "F", fields=("k",))), "")
        self.assertEqual(make(program, "G", "a ^ k + n")[2][2], codes_of("field 2; field 0; send + 1; answer"))

    def test_main(self):
        self.assertEqual(make_main(((), "")), ("doIt", (), (0, 0, (NIL, ANSWER), ())))
        self.assertEqual(make_main(((), "3")), ("doIt", (), (0, 0, (("int", 3), POP, NIL, ANSWER), ())))
        self.assertEqual(make_main(((), "| a | ^ a")), ("doIt", (), (0, 1, (("temp", 0, 0), ANSWER), ())))
        self.assertEqual(make_main(program=((), "[3] value"), in_place=False), ("doIt", (), (0, 0, codes_of(
            "block 0; send value 0; pop; const nil; answer"), ((0, 0, (("int", 3), ANSWER), ()),))))
        self.assertEqual(make_main(((), "[^ 'a']"))[1:], ((("str", "a"),), (0, 0, codes_of("block 0; pop; const nil; answer"),
                                                                            ((0, 0, (("lit", 0), ("return",)), ()),))))
        for thing in NO_PROGRAMS:
            with self.assertRaises(BadProgram):
                make_main(thing)

    def test_methods_of_programs_and_of_the_kernel(self):
        self.assertEqual(made_of(BOX, "Box", "n"), ("n", (), (0, 0, (("field", 0), ANSWER), ())))
        self.assertEqual(made_of(BOX, "Box class", "of:")[2][2], codes_of("self; send new 0; temp 0 0; send set: 1; answer"))
        self.assertEqual(made_of(ZOO, "Puppy", "wag")[2][2], codes_of("field 2; send isNil 0; answer"))
        for owner, source in kernel_texts():
            selector = read_method(source)[1]
            made = made_of(BOX, owner, selector, in_place=False)
            self.assertEqual(made, made_of(program=BOX, name=owner, selector=selector))
            self.assertEqual(made[0], selector)
            self.assertIs(is_made(made), True)
        self.assertEqual(made_of(BOX, "Integer", "abs")[2][2], codes_of(
            "self; int 0; send < 1; test yes 7 8; self; send negated 0; jump 8; self; answer"))
        self.assertEqual(made_of(BOX, "Exception", "signal:")[2][2], codes_of("temp 0 0; setfield 0; pop; self; send signal 0; answer"))
        self.assertEqual(made_of(((one("F", methods=("m ^ true and: [3]",)),), ""), "F", "m", in_place=False)[2][2],
                         codes_of("const true; block 0; send and: 1; answer"))

    def test_errors_of_made_of(self):
        for thing in NO_PROGRAMS:
            with self.assertRaises(BadProgram):
                made_of(thing, None, None)
        for name in (None, 7, "Foo", "box", "Box Class", "Box class class", ["Box"]):
            with self.assertRaises(BadClass):
                made_of(BOX, name, None)
        for name, selector in (("Box", "foo"), ("Box", "isNil"), ("Box", "of:"), ("Object", "=="), ("Integer", "+"), ("Box", None), ("Box", 7),
                               ("Box", ["n"]), ("Box", ""), ("Box", "n "), ("Box class", "n"), ("Object class", "new")):
            with self.assertRaises(NoMethod):
                made_of(BOX, name, selector)

    def test_errors_of_make(self):
        for thing in NO_PROGRAMS:
            with self.assertRaises(BadProgram):
                make(thing, None, None)
        for name in (None, 7, "Foo", "Object", "Object class", "box", ["Box"]):
            with self.assertRaises(BadClass):
                make(BOX, name, None)
        for source, place in ((None, -1), ("m ^ )", 4), ("3", 0), ("m ^ 'a", 4)):
            with self.assertRaises(BadSource) as caught:
                make(BOX, "Box", source)
            self.assertEqual(caught.exception.place, place)
        for name, source, where in (("Box", "m ^ k", (0, 0, 3)), ("Box", "n ^ k", (0, 0, 0)), ("Box class", "m ^ n", (0, 1, 1)),
                                    ("Box", "ifTrue: b ^ b", (0, 0, 3)), ("Box", deep("m ^ k"), (0, 0, 3)), ("Box", "m | n |", (0, 0, 3))):
            with self.assertRaises(BadProgram) as caught:
                make(BOX, name, source)
            self.assertEqual(caught.exception.where, where)
        full = ((one(methods=tuple("m%d" % k for k in range(20))),), "")
        with self.assertRaises(BadProgram) as caught:
            make(full, "Box", "more")
        self.assertEqual(caught.exception.where, (0,))
        self.assertEqual(make(full, "Box", "m3 ^ 3")[2][2], (("int", 3), ANSWER))
        with self.assertRaises(TooMany):
            make(BOX, "Box", deep("m ^ n"))

    def test_what_is_made_has_its_form(self):
        for program in all_programs():
            for in_place in (True, False):
                self.assertIs(is_made(make_main(program, in_place=in_place)), True, program)


def made(*codes, parameters=0, variables=0, blocks=(), literals=(), selector="m"):
    return (selector, tuple(literals), (parameters, variables, tuple(codes), tuple(blocks)))


def nested(many):
    """A made method with so many bodies within one another."""
    body = (0, 0, (ANSWER,), ())
    for _ in range(many - 1):
        body = (0, 0, (ANSWER,), (body,))
    return ("m", (), body)


class FormsTest(unittest.TestCase):
    def right(self, thing):
        self.assertIs(is_made(thing), True, thing)

    def wrong(self, thing):
        self.assertIs(is_made(thing), False, thing)
        for function in (codes_many, bodies_of):
            with self.assertRaises(BadMade):
                function(thing)

    def test_codes(self):
        for code in (("self",), NIL, ("const", "true"), ("const", "false"), ("int", 0), ("int", -5), ("int", 10 ** 60 - 1), ("int", 1 - 10 ** 60), ("lit", 0),
                     ("lit", 99), ("class", "Foo"), ("class", "A" * 40), ("temp", 0, 0), ("temp", 50, 2000), ("field", 0), ("field", 77), ("block", 0),
                     ("block", 800), ("settemp", 0, 0), ("settemp", 9, 9), ("setfield", 3), POP, ("dup",), ("send", "foo", 0), ("send", "foo", 9),
                     ("send", "+", 0), ("send", "at:put:", 2), ("send", "k:" * 50, 50), ("super", "foo", 0), ("jump", 0), ("jump", 9999),
                     ("test", True, 0, 0), ("test", False, 99, 7), ANSWER, ("return",), ("tail", "foo", 0), ("tailsuper", "foo", 1)):
            self.right(made(code))

    def test_what_is_no_code(self):
        for code in (None, "self", ["self"], (), ("self", 0), ("Self",), ("const",), ("const", None), ("const", True), ("const", "self"), ("const", "nil", 1),
                     ("int",), ("int", True), ("int", "3"), ("int", 10 ** 60), ("int", -10 ** 60), ("int", None), ("lit", -1), ("lit", True), ("lit", None),
                     ("lit",), ("lit", 0, 0), ("class", "foo"), ("class", "Foo class"), ("class", ""), ("class", "A" * 41), ("class", None), ("temp", 0),
                     ("temp", -1, 0), ("temp", 0, -1), ("temp", True, 0), ("temp", 0, False), ("field", -1), ("field", True), ("block", None),
                     ("settemp", 0), ("settemp", 0, True), ("setfield", "0"), ("pop", 1), ("dup", None), ("send", "foo"), ("send", "foo", -1),
                     ("send", "foo", True), ("send", "foo:bar", 1), ("send", "a b", 0), ("send", None, 0), ("send", "", 0), ("send", "***", 1),
                     ("send", "k:" * 51, 51), ("super", 3, 0), ("jump", -1), ("jump", True), ("jump",), ("test", 1, 0, 0), ("test", True, 0),
                     ("test", True, True, 0), ("test", "yes", 0, 0), ("test", None, 0, 0), ("test", True, 0, -1), ("answer", 0), ("return", 0),
                     ("tail", "foo"), ("tailsuper", "foo", None), ("foo",), (None,), (3,), (["self"],), (("self",),)):
            self.wrong(made(code))

    def test_bodies(self):
        self.right(made(ANSWER, parameters=20, variables=20))
        self.right(made(ANSWER, parameters=0, variables=1000))
        self.right(made(*[ANSWER] * 4000))
        self.right(made(ANSWER, blocks=[(0, 0, (ANSWER,), ())] * 700))
        self.right(nested(40))
        for thing in (made(ANSWER, parameters=21, variables=21), made(ANSWER, parameters=1), made(ANSWER, variables=1001), made(),
                      made(*[ANSWER] * 4001), made(ANSWER, blocks=[(0, 0, (ANSWER,), ())] * 701), nested(41), made(ANSWER, parameters=-1),
                      made(ANSWER, parameters=True, variables=1), made(ANSWER, variables=True), made(ANSWER, parameters=None), made(ANSWER, blocks=[None]),
                      made(ANSWER, blocks=[[0, 0, (ANSWER,), ()]]), made(ANSWER, blocks=[(0, 0, (ANSWER,))]), made(ANSWER, blocks=[(0, 0, (), ())]),
                      ("m", (), (0, 0, [ANSWER], ())), ("m", (), (0, 0, (ANSWER,), [])), ("m", (), [0, 0, (ANSWER,), ()]), ("m", (), None)):
            self.wrong(thing)

    def test_selectors_and_literals(self):
        for selector in ("m", "doIt", "+", "at:put:", "Foo", "super"):
            self.right(made(ANSWER, selector=selector))
        for selector in (None, "", "a b", "at:put", 7, "***", ["m"]):
            self.wrong(made(ANSWER, selector=selector))
        inner = ("str", "a")
        for _ in range(38):
            inner = ("arr", (inner,))
        for literal in (("str", ""), ("str", "a\n'"), ("sym", "a"), ("sym", ""), ("arr", ()), ("arr", (("int", 3), ("var", "nil"), ("arr", ()))), inner):
            self.right(made(ANSWER, literals=[literal]))
        for literal in (("int", 3), ("var", "nil"), "a", None, ("str", None), ("str", "\t"), ("sym", 3), ("arr", [("int", 3)]), ("arr", (("var", "self"),)),
                        ("arr", (3,)), ["str", "a"], ("arr", (inner,)), ("str", "a", "b")):
            self.wrong(made(ANSWER, literals=[literal]))

    def test_other_objects(self):
        for thing in (None, True, 7, "m", [], (), {}, ("m", ()), ("m", (), (0, 0, (ANSWER,), ()), 1), ["m", (), (0, 0, (ANSWER,), ())],
                      ("m", [], (0, 0, (ANSWER,), ())), object):
            self.wrong(thing)

    def test_counted_and_listed(self):
        self.assertEqual(codes_many(made=made(ANSWER)), 1)
        self.assertEqual(codes_many(nested(40)), 40)
        deepest = (0, 0, (POP,), ())
        one_block = (0, 0, (NIL, ANSWER), (deepest,))
        other = (1, 1, (NIL,), ())
        thing = made(ANSWER, ANSWER, blocks=[one_block, other])
        self.assertEqual(codes_many(thing), 6)
        self.assertEqual(bodies_of(thing), [thing[2], one_block, deepest, other])
        listed = bodies_of(made=thing)
        listed.clear()
        self.assertEqual(len(bodies_of(thing)), 4)


if __name__ == "__main__":
    unittest.main()
