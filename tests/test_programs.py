"""Point 9: which objects are programs, and where others are wrong; same_program of point 12."""

import unittest

from samples import BOX, NO_CLASSES, NO_PROGRAMS, ZOO, deep, one

from imagetalk.classes import tower
from imagetalk.errors import BadProgram
from imagetalk.programs import is_program, same_program

IN_PLACE = ("ifTrue: a", "ifFalse: a", "ifTrue: a ifFalse: b", "ifFalse: a ifTrue: b", "and: a", "or: a", "whileTrue: a",
            "whileFalse: a")
KERNEL = """Object Class Metaclass UndefinedObject Boolean True False Integer String Symbol Array Block Message Exception
Error NotUnderstood ZeroDivide WrongArguments CannotReturn CannotResume BadIndex BadKind Transcript Process Semaphore
Processor""".split()
NO_NAMES = (None, True, 7, "", "A b", "A:", "A" * 41, "1A", "A_", "\u00c4", ["Box"], ("Box",), b"Box", "Box class")
NO_SOURCES = (None, True, 7, ["m"], ("m",), b"m", {}, "", "3", "m )", "m 'a", "m\t", "m " * 1001, "a: self", "m Foo := 1",
              "m ^ super")


class ProgramsTest(unittest.TestCase):
    def where(self, thing):
        self.assertIs(is_program(thing), False, thing)
        with self.assertRaises(BadProgram) as caught:
            tower(thing)
        return caught.exception.where

    def wrong(self, where, *definitions, main=""):
        self.assertEqual(self.where((definitions, main)), where, definitions)

    def right(self, *definitions, main=""):
        self.assertIs(is_program((definitions, main)), True, definitions)

    def test_programs(self):
        for program in (BOX, ZOO, ((), ""), ((), "^ 3"), ((one(),), "")):
            self.assertIs(is_program(program), True)
            self.assertIs(is_program(thing=program), True)

    def test_what_is_no_tuple_of_two(self):
        for thing in NO_PROGRAMS:
            self.assertEqual(self.where(thing), ())

    def test_what_has_no_such_classes(self):
        for thing in NO_CLASSES:
            self.assertEqual(self.where((thing, "")), ())
            self.assertEqual(self.where((thing, None)), ())

    def test_twelve_and_thirteen_definitions(self):
        definitions = [one("C" + str(k)) for k in range(13)]
        self.right(*definitions[:12])
        self.wrong((), *definitions)
        self.wrong((), *definitions[:12], None)

    def test_what_is_no_definition(self):
        for thing in (None, True, 7, "Box", list(one()), one()[:5], (*one(), ()), (), [], ((),) * 6):
            self.wrong((0,), thing)
            self.wrong((1,), one("A"), thing, one("B"))

    def test_names(self):
        for name in ("Box", "B", "A" * 40, "B2", "Main"):
            self.right(one(name))
        for name in (*NO_NAMES, *KERNEL, "box", "self", "nil"):
            self.wrong((0,), one(name))
        self.wrong((2,), one("A"), one("B"), one("A"))

    def test_parents(self):
        for parent in ("Object", "Exception", "Error"):
            self.right(one("A", parent), one("B", "A"), one("C", "A"), one("D", "B"))
        others = [name for name in KERNEL if name not in ("Object", "Exception", "Error")]
        for parent in (*NO_NAMES, *others, "A", "B", "C", "Object class", "Nobody", "object"):
            if parent != "A":
                self.wrong((1,), one("A"), one("B", parent), one("C"))
            self.wrong((0,), one("A", parent), one("B"), one("C"))

    def test_fields(self):
        self.right(one(fields=("a", "b1"), class_fields=("a", "c")))
        eight = tuple("f" + str(k) for k in range(8))
        self.right(one(fields=eight, class_fields=eight), one("B", "Box", ("g",), ("g",)))
        for thing in ((*eight, "f8"), ("a", "b", "a"), ("self",), ("super",), ("nil",), ("true",), ("false",), ("Foo",), ("",),
                      ("a b",), ("a:",), ("a" * 41,), (None,), (True,), (["a"],), ["a"], "a", None, {}, 7):
            self.wrong((0,), one(fields=thing))
            self.wrong((0,), one(class_fields=thing))

    def test_fields_that_a_class_above_has(self):
        above = (one("A", "Object", ("a",), ("c",)), one("B", "A", ("b",), ("d",)))
        self.right(*above, one("C", "B", ("c", "d"), ("a", "b")))
        self.right(*above, one("C", "Object", ("a", "b"), ("c", "d")))
        for field in ("a", "b"):
            self.wrong((2,), *above, one("C", "B", ("e", field)))
        for field in ("c", "d"):
            self.wrong((2,), *above, one("C", "B", (), ("e", field)))

    def test_fields_of_the_kernel(self):
        for parent in ("Exception", "Error"):
            self.wrong((0,), one("A", parent, ("text",)))
            self.right(one("A", parent, ("message", "receiver"), ("text",)))
            self.wrong((1,), one("A", parent), one("B", "A", ("text",)))
        self.right(one("A", "Object", ("text", "selector", "arguments")))

    def test_tuples_of_methods(self):
        many = tuple("m" + str(k) for k in range(21))
        self.right(one(methods=many[:20], class_methods=many[:20]))
        for thing in (many, ["m"], "m", None, {}, 7, tuple([None] * 21)):
            self.wrong((0,), one(methods=thing))
            self.wrong((0,), one(class_methods=thing))
        self.wrong((0,), one(methods=("3",), class_methods=many))

    def test_methods_that_are_no_sources(self):
        for thing in NO_SOURCES:
            self.wrong((0, 0, 1), one(methods=("a", thing, "b")))
            self.wrong((0, 1, 2), one(methods=("a",), class_methods=("a", "b", thing)))

    def test_a_source_that_is_too_deep_is_wrong(self):
        self.right(one(methods=(deep("m self", 38),)))
        self.wrong((0, 0, 1), one(methods=("a", deep("m self", 39))))
        self.wrong((0, 1, 0), one(class_methods=(deep("m self"),)))
        self.wrong(("main",), one(), main=deep("self"))

    def test_two_of_one_selector(self):
        self.wrong((0, 0, 2), one(methods=("a", "b: x", "a ^ 3")))
        self.wrong((0, 1, 1), one(methods=("a",), class_methods=("b: x", "b: y", "b: z")))
        self.right(one(methods=("a", "a: x", "+ x"), class_methods=("a", "a: x", "+ x")), one("B", "Box", (), (), ("a",)))

    def test_the_eight_selectors(self):
        for source in IN_PLACE:
            self.wrong((0, 0, 0), one(methods=(source,)))
            self.wrong((0, 1, 1), one(class_methods=("m", source)))
        self.right(one(methods=("not", "whileTrue", "ifTrue: a ifTrue: b", "value", "and: a or: b", "== x", "doIt")))

    def test_free_names(self):
        fields = dict(fields=("a",), class_fields=("c",))
        self.right(one(methods=("m a := a + Box + Integer + Object", "b ^ [:x | a := x]"), class_methods=("m c := c + Box",), **fields))
        for source in ("m b", "m b := 3", "m c", "m c := 3", "m Foo", "m box", "m [:x | x]. x", "m BoxClass new"):
            self.wrong((0, 0, 0), one(methods=(source,), **fields))
        for source in ("m b", "m a", "m a := 3", "m Foo", "m ^ #(a). b"):
            self.wrong((0, 1, 0), one(class_methods=(source,), **fields))

    def test_free_names_from_above(self):
        above = (one("A", "Object", ("a",), ("c",)), one("B", "A", ("b",), ("d",)))
        self.right(*above, one("C", "B", (), (), ("m a := b",), ("m c := d",)))
        self.wrong((2, 0, 0), *above, one("C", "B", (), (), ("m c",)))
        self.wrong((2, 1, 0), *above, one("C", "B", (), (), (), ("m a",)))
        self.wrong((2, 0, 0), *above, one("C", "Object", (), (), ("m a",)))
        self.right(one("A", "Error", (), (), ("m text := text",)))
        self.wrong((0, 1, 0), one("A", "Error", (), (), (), ("m text := text",)))
        self.wrong((0, 0, 0), one("A", "Object", (), (), ("m text := text",)))

    def test_parameters_and_variables_with_the_name_of_a_field(self):
        above = (one("A", "Error", ("a",), ("c",)), one("B", "A", ("b",), ("d",)))
        for form in ("m: NAME", "+ NAME", "m | NAME |", "m | x NAME |", "m [:NAME]", "m [| NAME |]", "m [:x | [:NAME]]"):
            for name in ("a", "b", "text"):
                source = form.replace("NAME", name)
                self.wrong((2, 0, 0), *above, one("C", "B", (), (), (source,)))
                self.right(*above, one("C", "B", (), (), (), (source,)))
            for name in ("c", "d"):
                source = form.replace("NAME", name)
                self.wrong((2, 1, 0), *above, one("C", "B", (), (), (), (source,)))
                self.right(*above, one("C", "B", (), (), (source,)))
            self.wrong((1, 0, 0), above[0], one("B", "A", ("b",), (), (form.replace("NAME", "b"),)))
        self.right(*above, one("C", "Object", (), (), ("m: a | b | [:text]",)), one("D", "B", ("e",)))

    def test_methods_may_name_classes_further_behind(self):
        user = one("A", methods=("m ^ B new",), class_methods=("m ^ B",))
        self.right(user, one("B"))
        self.right(user, one("C"), one("B", "C"))
        self.wrong((0, 0, 0), user)
        for wrong in (one("B", "Nobody"), one("B", fields=["a"]), one("B", methods=None), one("B", methods=("3",)),
                      ("B", None, None, None, None, None)):
            where = (1, 0, 0) if wrong[4] == ("3",) else (1,)
            self.wrong(where, user, wrong)
        for wrong in (("B",), ["B", "Object", (), (), (), ()], one("B")[:5], one("b"), None, "B", (*one("B"), ())):
            self.wrong((0, 0, 0), user, wrong)
        self.wrong((0, 0, 0), one("A", methods=("m ^ 3 + b",)), one("b"))

    def test_main(self):
        self.right(one(), main="| a | a := Box new. ^ Integer")
        for main in (None, True, 7, ["x"], b"x", "a", "a := 3", "Foo", ")", "x", "self := 3", "^ 'a", "| a | [b]", "x" * 2001):
            self.wrong(("main",), one(fields=("a",)), main=main)
        self.right(one("A", "Object", ("a",)), main="| a | ^ [:b | a]")

    def test_the_first_of_several_is_told(self):
        bad = one("A", methods=("m", "3"), class_methods=("4",))
        self.wrong((0, 0, 1), bad, None, main=None)
        self.wrong((0, 1, 0), one("A", class_methods=("4",)), None, main=None)
        self.wrong((0,), one("a", methods=("3",)), main=None)
        self.wrong((0,), one("A", class_fields=None, methods=("3",)), main=None)
        self.wrong((1,), one("A"), one("A", methods=("3",)), main=None)
        self.wrong((1, 0, 0), one("A"), one("B", methods=("3", "4")), one("A"), main=None)
        self.wrong((0, 0, 1), one("A", methods=("m", "m", "3")))
        self.wrong(("main",), one("A"), main=None)

    def test_where_is_a_tuple(self):
        for thing in (None, ((None,), ""), ((one(methods=("3",)),), ""), ((), None)):
            self.assertIs(type(self.where(thing)), tuple)


class SameProgramTest(unittest.TestCase):
    def changed(self, index, part, thing, program=ZOO):
        definition = program[0][index]
        definition = (*definition[:part], thing, *definition[part + 1:])
        return ((*program[0][:index], definition, *program[0][index + 1:]), program[1])

    def test_equal_programs(self):
        for program in (BOX, ZOO, ((), "")):
            self.assertIsNone(same_program(program, program))
            self.assertIsNone(same_program(program=program, other=program))

    def test_other_words_with_the_same_trees(self):
        other = self.changed(0, 4, ("name\n^(name) .", "age:a age:=a.", "=other ^ (age = \"c\" (other age))"))
        self.assertIsNone(same_program(ZOO, (other[0], "^(Puppy new)wag.")))
        self.assertIsNone(same_program((other[0], "^ Puppy  new wag"), ZOO))

    def test_definitions(self):
        for index, part, thing in ((3, 1, "Exception"), (0, 2, ("age", "name")), (4, 2, ("dogs", "more")), (1, 3, ("packs",)),
                                   (1, 3, ("size", "packs"))):
            other = self.changed(index, part, thing)
            self.assertEqual(same_program(ZOO, other), (index,))
            self.assertEqual(same_program(other, ZOO), (index,))

    def test_names_and_parents(self):
        one_more = ((one("A"), one("B", "A")), "")
        self.assertEqual(same_program(one_more, ((one("A"), one("C", "A")), "")), (1,))
        self.assertEqual(same_program(one_more, ((one("A"), one("B")), "")), (1,))
        self.assertEqual(same_program(one_more, ((one("B"), one("A")), "")), (0,))

    def test_methods(self):
        self.assertEqual(same_program(ZOO, self.changed(0, 4, ("name ^ age", *ZOO[0][0][4][1:]))), (0, 0, 0))
        self.assertEqual(same_program(ZOO, self.changed(0, 4, (*ZOO[0][0][4][:2], "= o ^ age = o age"))), (0, 0, 2))
        self.assertEqual(same_program(ZOO, self.changed(0, 5, (ZOO[0][0][5][1], ZOO[0][0][5][0]))), (0, 1, 0))
        self.assertEqual(same_program(ZOO, self.changed(1, 5, ("packs ^ made + packs",))), (1, 1, 0))

    def test_more_methods(self):
        for side in (0, 1):
            for sources in ((*ZOO[0][0][4 + side], "more"), (*ZOO[0][0][4 + side], "more", "most")):
                other = self.changed(0, 4 + side, sources)
                self.assertEqual(same_program(ZOO, other), (0, side, len(ZOO[0][0][4 + side])))
                self.assertEqual(same_program(other, ZOO), (0, side, len(ZOO[0][0][4 + side])))
            self.assertEqual(same_program(self.changed(4, 4 + side, ()), self.changed(4, 4 + side, ("more",))), (4, side, 0))

    def test_more_definitions(self):
        for count in range(5):
            fewer = (tuple(one(name) for name in "ABCDE"[:count]), "")
            more = (tuple(one(name) for name in "ABCDE"), "^ 1")
            self.assertEqual(same_program(fewer, more), (count,))
            self.assertEqual(same_program(more, fewer), (count,))

    def test_main(self):
        self.assertEqual(same_program(ZOO, (ZOO[0], "^ Dog new wag")), ("main",))
        self.assertEqual(same_program(((), ""), ((), "nil")), ("main",))

    def test_the_first_of_several(self):
        base = ((one("A", methods=("a", "b"), class_methods=("c",)), one("B")), "")
        for other, where in (
                (((one("A", fields=("x",), methods=("b",)), one("C")), "1"), (0,)),
                (((one("A", methods=("a", "c"), class_methods=("d",)), one("C")), "1"), (0, 0, 1)),
                (((one("A", methods=("a",), class_methods=("d",)), one("C")), "1"), (0, 0, 1)),
                (((one("A", methods=("a", "b"), class_methods=("d",)), one("C")), "1"), (0, 1, 0)),
                (((one("A", methods=("a", "b"), class_methods=("c",)), one("C")), "1"), (1,)),
                (((one("A", methods=("a", "b"), class_methods=("c",)),), "1"), (1,)),
                (((one("A", methods=("a", "b"), class_methods=("c",)), one("B")), "1"), ("main",))):
            self.assertEqual(same_program(base, other), where)
            self.assertEqual(same_program(other, base), where)

    def test_bad_programs(self):
        for one_side, other, where in ((None, ((), 3), ()), (((), 3), None, ("main",)), (BOX, ((), 3), ("main",)),
                                       (BOX, ((None,), ""), (0,))):
            with self.assertRaises(BadProgram) as caught:
                same_program(one_side, other)
            self.assertEqual(caught.exception.where, where)


if __name__ == "__main__":
    unittest.main()
