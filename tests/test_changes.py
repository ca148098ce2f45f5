"""Point 13: programs with other methods, fields and parents."""

import unittest

from samples import BOX, NO_PROGRAMS, ZOO, deep, one

from imagetalk.errors import BadClass, BadFields, BadParent, BadProgram, BadSource, NoMethod, TooMany
from imagetalk.programs import is_program, same_program, with_fields, with_method, with_parent, without_method

NO_CLASSES = (None, True, 7, "", "Nobody", "Object", "Error", "Integer class", "box", "Box ", "Box class class", "class", " class",
              ["Box"], ("Box",), b"Box")
OTHERS = (None, True, 7, b"m", ["n"], ("n",), {}, object)


def part_of(program, index, part):
    return program[0][index][part]


class ChangesTest(unittest.TestCase):
    def where(self, function, *arguments):
        with self.assertRaises(BadProgram) as caught:
            function(*arguments)
        return caught.exception.where

    def only(self, found, program, index, part):
        """The program is found in all parts but one, which is returned."""
        self.assertTrue(is_program(found))
        self.assertEqual(found[1], program[1])
        self.assertEqual(len(found[0]), len(program[0]))
        for k in range(len(program[0])):
            for p in range(6):
                if (k, p) != (index, part):
                    self.assertEqual(part_of(found, k, p), part_of(program, k, p))
        return part_of(found, index, part)

    def refused(self, function, *cases):
        for arguments, error in cases:
            with self.assertRaises(error, msg=arguments):
                function(*arguments)


class WithMethodTest(ChangesTest):
    def test_a_method_in_the_place_of_another(self):
        for source in ("age: b ^ b", "age: a  \"other\" age := a."):
            found = with_method(ZOO, "Animal", source)
            self.assertEqual(self.only(found, ZOO, 0, 4), (ZOO[0][0][4][0], source, ZOO[0][0][4][2]))
        found = with_method(ZOO, "Animal class", "new ^ super new")
        self.assertEqual(self.only(found, ZOO, 0, 5), ("made ^ made", "new ^ super new"))

    def test_a_new_method_behind_the_others(self):
        found = with_method(ZOO, "Dog", "bark ^ tail")
        self.assertEqual(self.only(found, ZOO, 1, 4), (*ZOO[0][1][4], "bark ^ tail"))
        found = with_method(program=ZOO, name="Cage class", source="of: d ^ self new put: d")
        self.assertEqual(self.only(found, ZOO, 4, 5), ("of: d ^ self new put: d",))

    def test_the_program_stays(self):
        before = repr(ZOO)
        with_method(ZOO, "Dog", "bark ^ tail")
        self.assertEqual(repr(ZOO), before)

    def test_errors_and_their_order(self):
        self.refused(with_method, *[((thing, None, None), BadProgram) for thing in NO_PROGRAMS],
                     *[((BOX, thing, None), BadClass) for thing in NO_CLASSES],
                     *[((BOX, "Box", thing), BadSource) for thing in (*OTHERS, "", "3", "m )", "m\t", "m " * 1001)],
                     ((BOX, "Box", deep("m self") + " )"), BadSource), ((BOX, "Box class", deep("m self")), TooMany),
                     ((BOX, "Box", deep("n self")), TooMany), ((BOX, "Box", "m ^ " + "[" * 500 + "]" * 500), TooMany))

    def test_the_place_of_bad_source(self):
        with self.assertRaises(BadSource) as caught:
            with_method(BOX, "Box", "m ^ )")
        self.assertEqual(caught.exception.place, 4)
        with self.assertRaises(BadSource) as caught:
            with_method(BOX, "Box", 7)
        self.assertEqual(caught.exception.place, -1)

    def test_where_of_bad_program(self):
        for name, source, where in (
                ("Dog", "m ^ foo", (1, 0, 2)), ("Dog", "wag ^ foo", (1, 0, 1)), ("Dog class", "m ^ tail", (1, 1, 1)),
                ("Dog class", "packs ^ tail", (1, 1, 0)), ("Cage", "m: dogs", (4, 0, 2)), ("Puppy", "m | name |", (2, 0, 2)),
                ("Puppy class", "m: made", (2, 1, 0)), ("Trouble", "m [:text]", (3, 0, 2)), ("Dog", "m ^ Nobody", (1, 0, 2)),
                ("Dog", "ifTrue: a", (1, 0, 2)), ("Dog class", "and: a", (1, 1, 1))):
            self.assertEqual(self.where(with_method, ZOO, name, source), where)
        full = ((one("A", methods=tuple("m" + str(k) for k in range(20))),), "")
        self.assertEqual(self.where(with_method, full, "A", "more"), (0,))
        self.assertEqual(with_method(full, "A", "m7 ^ 3")[0][0][4][7], "m7 ^ 3")

    def test_too_many_comes_last(self):
        self.assertEqual(self.where(with_method, ZOO, "Dog", deep("m ^ foo")), (1, 0, 2))
        self.assertEqual(self.where(with_method, ZOO, "Dog", "wag " + "[" * 200 + "foo" + "]" * 200), (1, 0, 1))
        self.assertEqual(self.where(with_method, ZOO, "Dog", "m " + "[" * 300 + ":tail" + "]" * 300), (1, 0, 2))
        self.assertEqual(self.where(with_method, ZOO, "Dog", deep("or: a ^ a")), (1, 0, 2))
        full = ((one("A", methods=tuple("m" + str(k) for k in range(20))),), "")
        self.assertEqual(self.where(with_method, full, "A", deep("more self")), (0,))
        self.refused(with_method, ((full, "A", deep("m1 self")), TooMany), ((ZOO, "Dog", deep("m ^ tail")), TooMany))


class WithoutMethodTest(ChangesTest):
    def test_the_method_is_gone(self):
        self.assertEqual(self.only(without_method(ZOO, "Animal", "age:"), ZOO, 0, 4), (ZOO[0][0][4][0], ZOO[0][0][4][2]))
        self.assertEqual(self.only(without_method(ZOO, "Animal", "="), ZOO, 0, 4), ZOO[0][0][4][:2])
        self.assertEqual(self.only(without_method(ZOO, "Animal class", "made"), ZOO, 0, 5), ZOO[0][0][5][1:])
        found = without_method(program=BOX, name="Box class", selector="of:")
        self.assertEqual(self.only(found, BOX, 0, 5), ())

    def test_errors_and_their_order(self):
        self.refused(without_method, *[((thing, None, None), BadProgram) for thing in NO_PROGRAMS],
                     *[((BOX, thing, None), BadClass) for thing in NO_CLASSES],
                     *[((BOX, "Box", thing), NoMethod) for thing in (*OTHERS, "", "of:", "class", "isNil", "n:", "m", 3, "n ^ n")],
                     ((BOX, "Box class", "n"), NoMethod), ((BOX, "Box class", "new"), NoMethod), ((ZOO, "Puppy", "name"), NoMethod))


class WithFieldsTest(ChangesTest):
    def test_other_fields(self):
        for fields in (("dogs",), ("more", "dogs"), ("dogs", "a", "b", "c", "e", "f", "g", "h")):
            self.assertEqual(self.only(with_fields(ZOO, "Cage", fields), ZOO, 4, 2), fields)
        for fields in ((), ("text", "level2")):
            self.assertEqual(self.only(with_fields(ZOO, "Trouble class", fields), ZOO, 3, 3), fields)
        found = with_fields(program=ZOO, name="Dog class", fields=("packs", "tail"))
        self.assertEqual(self.only(found, ZOO, 1, 3), ("packs", "tail"))

    def test_errors_and_their_order(self):
        bad = (None, True, 7, "n", ["n"], {}, ("N",), ("self",), ("nil",), ("n", "n"), ("a b",), ("",), (None,), (["n"],), ("n:",),
               tuple("f" + str(k) for k in range(9)), ("a" * 41,))
        self.refused(with_fields, *[((thing, None, None), BadProgram) for thing in NO_PROGRAMS],
                     *[((BOX, thing, None), BadClass) for thing in NO_CLASSES],
                     *[((BOX, "Box", thing), BadFields) for thing in bad],
                     *[((BOX, "Box class", thing), BadFields) for thing in bad])

    def test_where_of_bad_program(self):
        for name, fields, where in (
                ("Animal", (), (0, 0, 0)), ("Animal", ("name",), (0, 0, 1)), ("Animal", ("name", "age", "a"), (0, 0, 1)),
                ("Animal", ("name", "age", "tail"), (1,)), ("Dog", (), (1, 0, 0)), ("Dog", ("tail", "name"), (1,)),
                ("Dog class", ("size",), (1, 1, 0)), ("Dog class", ("packs", "made"), (1,)), ("Animal class", (), (0, 1, 0)),
                ("Animal class", ("made", "size"), (1,)), ("Trouble", ("level", "text"), (3,)), ("Trouble", (), (3, 0, 0)),
                ("Cage", ("dogs", "d"), (4, 0, 0))):
            self.assertEqual(self.where(with_fields, ZOO, name, fields), where, (name, fields))


class WithParentTest(ChangesTest):
    def order(self, program):
        return [definition[0] for definition in program[0]]

    def test_a_parent_ahead_and_the_kernel(self):
        for name, parent, index in (("Trouble", "Exception", 3), ("Trouble", "Error", 3), ("Cage", "Dog", 4), ("Cage", "Error", 4),
                                    ("Cage", "Trouble", 4), ("Animal", "Object", 0), ("Dog", "Animal", 1), ("Animal", "Error", 0)):
            self.assertEqual(self.only(with_parent(ZOO, name, parent), ZOO, index, 1), parent)
        self.assertEqual(self.only(with_parent(program=ZOO, name="Cage", parent="Puppy"), ZOO, 4, 1), "Puppy")

    def test_a_parent_behind(self):
        found = with_parent(ZOO, "Animal", "Cage")
        self.assertEqual(self.order(found), ["Trouble", "Cage", "Animal", "Dog", "Puppy"])
        self.assertEqual(found[0][2], ("Animal", "Cage", *ZOO[0][0][2:]))
        self.assertEqual(found[0][3:], ZOO[0][1:3])
        self.assertEqual((found[0][0], found[0][1], found[1]), (ZOO[0][3], ZOO[0][4], ZOO[1]))

    def test_those_below_move_too(self):
        program = ((one("A"), one("B", "A"), one("C"), one("D", "B"), one("E"), one("F", "A"), one("G", "E"), one("H", "D")), "^ A")
        self.assertEqual(self.order(with_parent(program, "A", "E")), list("CEABDFHG"))
        self.assertEqual(self.order(with_parent(program, "B", "E")), list("ACEBDHFG"))
        self.assertEqual(self.order(with_parent(program, "B", "C")), list("ACBDHEFG"))
        self.assertEqual(self.order(with_parent(program, "C", "H")), list("ABDEFGHC"))
        self.assertEqual(self.order(with_parent(program, "D", "G")), list("ABCEFGDH"))
        self.assertEqual(self.order(with_parent(program, "A", "G")), list("CEGABDFH"))
        self.assertEqual(self.order(with_parent(program, "D", "C")), list("ABCDEFGH"))
        self.assertEqual(self.order(with_parent(program, "H", "Object")), list("ABCDEFGH"))
        found = with_parent(program, "A", "E")
        self.assertEqual({name: parent for name, parent, *_ in found[0]},
                         {"A": "E", "B": "A", "C": "Object", "D": "B", "E": "Object", "F": "A", "G": "E", "H": "D"})
        self.assertEqual(found[1], program[1])

    def test_errors_and_their_order(self):
        parents = (*OTHERS, "", "Nobody", "Integer", "Class", "NotUnderstood", "Animal class", "Object class", "Dog class")
        self.refused(with_parent, *[((thing, None, None), BadProgram) for thing in NO_PROGRAMS],
                     *[((BOX, thing, None), BadClass) for thing in (*NO_CLASSES, "Box class")],
                     *[((ZOO, "Dog", thing), BadParent) for thing in parents],
                     *[((ZOO, name, parent), BadParent) for name, parent in (
                         ("Dog", "Dog"), ("Dog", "Puppy"), ("Animal", "Animal"), ("Animal", "Dog"), ("Animal", "Puppy"))])

    def test_where_of_bad_program(self):
        for name, parent, where in (("Dog", "Object", (1, 1, 0)), ("Dog", "Cage", (3, 1, 0)), ("Trouble", "Object", (3, 0, 0)),
                                    ("Trouble", "Cage", (4, 0, 0)), ("Puppy", "Object", (2, 0, 0)), ("Puppy", "Animal", (2, 0, 0)),
                                    ("Puppy", "Cage", (4, 0, 0))):
            self.assertEqual(self.where(with_parent, ZOO, name, parent), where, (name, parent))
        program = ((one("A", "Object", ("a",)), one("B", "Object", ("a",)), one("C", "Object", (), (), ("m: a",)),
                    one("D", "Error", (), (), ("m ^ text",)), one("E", "Object", (), ("c",)), one("F", "Object", (), ("c",)),
                    one("G", "Object", ("text",))), "")
        for name, parent, where in (("B", "A", (1,)), ("A", "B", (1,)), ("C", "A", (2, 0, 0)), ("C", "B", (2, 0, 0)),
                                    ("D", "Object", (3, 0, 0)), ("E", "F", (5,)), ("F", "E", (5,)), ("G", "Error", (6,)),
                                    ("G", "D", (6,))):
            self.assertEqual(self.where(with_parent, program, name, parent), where, (name, parent))
        self.assertTrue(is_program(with_parent(program, "A", "C")))
        below = ((one("A", "Object", ("a",)), one("B", "A", (), (), ("m ^ a",)), one("C")), "")
        self.assertEqual(self.where(with_parent, below, "B", "C"), (2, 0, 0))

    def test_an_equal_program(self):
        self.assertIsNone(same_program(with_parent(ZOO, "Puppy", "Dog"), ZOO))


if __name__ == "__main__":
    unittest.main()
