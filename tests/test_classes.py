"""Points 10 to 12: the classes of a program and of the kernel, and where methods are found."""

import unittest

from samples import BOX, NO_PROGRAMS, ZOO, one

from imagetalk.classes import (children_of, class_of, fields_of, line_of, lookup, method_of, methods_of, overridden, parent_of,
                               tower)
from imagetalk.errors import BadClass, BadProgram, BadSelector
from imagetalk.trees import read_method

EMPTY = ((), "")
PARENTS = {
    "Object": None, "Class": "Object", "Metaclass": "Class", "UndefinedObject": "Object", "Boolean": "Object",
    "True": "Boolean", "False": "Boolean", "Integer": "Object", "String": "Object", "Symbol": "String", "Array": "Object",
    "Block": "Object", "Message": "Object", "Exception": "Object", "Error": "Exception", "NotUnderstood": "Error",
    "ZeroDivide": "Error", "WrongArguments": "Error", "CannotReturn": "Error", "CannotResume": "Error", "BadIndex": "Error",
    "BadKind": "Error", "Transcript": "Object", "Process": "Object", "Semaphore": "Object", "Processor": "Object"}
FIELDS = {"Message": ("selector", "arguments"), "Exception": ("text",), "NotUnderstood": ("message", "receiver")}
ZOO_PARENTS = {**PARENTS, "Animal": "Object", "Dog": "Animal", "Puppy": "Dog", "Trouble": "Error", "Cage": "Object"}
NO_CLASSES = (None, True, 7, "", "Nobody", "Dogs", "dog", "Dog  class", "Dog class class", "Dog Class", "class", " class",
              "Dogclass", ["Dog"], ("Dog",), b"Dog", {}, object)
NO_SELECTORS = (None, True, 7, "", "a b", "a:b", ":", "a::", "!", "/", "+-", "a" * 41, "a" * 41 + ":", "k:" * 21, "k:" * 51,
                ("a" * 24 + ":") * 3 + "a" * 25 + ":", ["a"], ("a",), b"a", "#a", "1", "a.", {})
WITH_A_CLASS = (parent_of, class_of, fields_of, line_of, children_of, methods_of, overridden)
WITH_A_SELECTOR = (lookup, method_of)


def line(parents, name):
    """The line of a class, from the table of parents alone."""
    if name.endswith(" class"):
        above = parents[name[:-6]]
        return [name, *(line(parents, above + " class") if above else line(parents, "Class"))]
    return [name, *(line(parents, parents[name]) if parents[name] else [])]


class ClassesTest(unittest.TestCase):
    def test_every_class_of_the_kernel_and_of_a_program(self):
        for program, parents in ((EMPTY, PARENTS), (ZOO, ZOO_PARENTS)):
            for name, parent in parents.items():
                self.assertEqual(parent_of(program, name), parent)
                self.assertEqual(class_of(program, name), name + " class")
                self.assertEqual(line_of(program, name), line(parents, name))

    def test_every_name_class(self):
        for program, parents in ((EMPTY, PARENTS), (ZOO, ZOO_PARENTS)):
            for name, parent in parents.items():
                self.assertEqual(parent_of(program, name + " class"), parent + " class" if parent else "Class")
                self.assertEqual(class_of(program, name + " class"), "Metaclass")
                self.assertEqual(line_of(program, name + " class"), line(parents, name + " class"))
        self.assertEqual(line_of(ZOO, "Puppy class"),
                         ["Puppy class", "Dog class", "Animal class", "Object class", "Class", "Object"])
        self.assertEqual(line_of(EMPTY, "Metaclass class"), ["Metaclass class", "Class class", "Object class", "Class", "Object"])

    def test_fields(self):
        for name in PARENTS:
            above = line(PARENTS, name)
            expected = tuple(field for owner in reversed(above) for field in FIELDS.get(owner, ()))
            self.assertEqual(fields_of(EMPTY, name), expected)
            self.assertEqual(fields_of(EMPTY, name + " class"), ())
        self.assertEqual(fields_of(EMPTY, "NotUnderstood"), ("text", "message", "receiver"))
        self.assertEqual(fields_of(ZOO, "Animal"), ("name", "age"))
        self.assertEqual(fields_of(ZOO, "Puppy"), ("name", "age", "tail"))
        self.assertEqual(fields_of(ZOO, "Trouble"), ("text", "level"))
        self.assertEqual(fields_of(ZOO, "Animal class"), ("made",))
        self.assertEqual(fields_of(ZOO, "Puppy class"), ("made", "packs", "size"))
        self.assertEqual(fields_of(ZOO, "Cage class"), ())
        self.assertIs(type(fields_of(ZOO, "Puppy")), tuple)

    def test_children(self):
        for program, parents in ((EMPTY, PARENTS), (ZOO, ZOO_PARENTS)):
            for name in parents:
                below = sorted(other for other, parent in parents.items() if parent == name)
                expected = sorted([*below, "Object class"]) if name == "Class" else below
                self.assertEqual(children_of(program, name), expected)
                self.assertEqual(children_of(program, name + " class"), sorted(other + " class" for other in below))
        self.assertEqual(children_of(ZOO, "Animal"), ["Dog"])
        self.assertEqual(children_of(ZOO, "Cage class"), [])
        self.assertEqual(children_of(EMPTY, "Class"), ["Metaclass", "Object class"])

    def test_the_tower(self):
        for program, parents in ((EMPTY, PARENTS), (ZOO, ZOO_PARENTS)):
            rows = []
            for name, parent in parents.items():
                rows.append((name, name + " class", parent))
                rows.append((name + " class", "Metaclass", parent + " class" if parent else "Class"))
            self.assertEqual(tower(program), sorted(rows, key=lambda row: row[0]))

    def test_arguments_by_name(self):
        self.assertEqual(parent_of(program=BOX, name="Box"), "Object")
        self.assertEqual(class_of(program=BOX, name="Box"), "Box class")
        self.assertEqual(fields_of(program=BOX, name="Box"), ("n",))
        self.assertEqual(line_of(program=BOX, name="Box"), ["Box", "Object"])
        self.assertEqual(children_of(program=BOX, name="Box"), [])
        self.assertEqual(len(tower(program=BOX)), 54)
        self.assertEqual(lookup(program=BOX, name="Box", selector="n"), "Box")
        self.assertIn("n", methods_of(program=BOX, name="Box"))
        self.assertEqual(method_of(program=BOX, name="Box", selector="n"), read_method("n ^ n"))
        self.assertEqual(overridden(program=BOX, name="Box"), [])

    def test_lists_are_new(self):
        for function in (line_of, children_of, methods_of, overridden):
            for name in ("Animal", "Dog class", "String"):
                before = list(function(ZOO, name))
                function(ZOO, name).append("more")
                self.assertEqual(function(ZOO, name), before)
        tower(ZOO).clear()
        self.assertEqual(len(tower(ZOO)), 62)


class MethodsTest(unittest.TestCase):
    def test_lookup(self):
        for name, selector, found in (
                ("Dog", "wag", "Dog"), ("Puppy", "wag", "Puppy"), ("Puppy", "name", "Dog"), ("Animal", "name", "Animal"),
                ("Puppy", "age:", "Animal"), ("Puppy", "=", "Animal"), ("Cage", "=", "Object"), ("Puppy", "printString", "Puppy"),
                ("Dog", "printString", "Object"), ("Puppy", "isNil", "Object"), ("Puppy", "bark", None), ("Animal", "wag", None),
                ("Trouble", "signal", "Trouble"), ("Trouble", "signal:", "Exception"), ("Trouble", "retry", "Exception"),
                ("Trouble", "text", "Trouble"), ("Symbol", "=", "String"), ("Symbol", "size", "String"), ("Integer", "=", "Integer"),
                ("Array", "=", "Object"), ("True", "not", "Boolean"), ("True", "and:", "True"), ("NotUnderstood", "text", "Exception"),
                ("Metaclass", "name", "Class"), ("Integer", "foo", None), ("Puppy", "ifTrue:", "Object"),
                ("Puppy", "new", None), ("Integer", "at:put:", None)):
            self.assertEqual(lookup(ZOO, name, selector), found, (name, selector))

    def test_lookup_of_what_classes_understand(self):
        for name, selector, found in (
                ("Dog class", "packs", "Dog class"), ("Puppy class", "packs", "Dog class"), ("Puppy class", "new", "Animal class"),
                ("Cage class", "new", "Object class"), ("Puppy class", "name", "Class"), ("Puppy class", "isNil", "Object"),
                ("Trouble class", "signal:", "Exception class"), ("Array class", "new:", "Array class"), ("Dog class", "wag", None),
                ("Array class", "new", "Object class"), ("Object class", "parent", "Class"), ("Object class", "new:", None),
                ("Metaclass class", "new", "Object class"), ("Transcript class", "show:", "Transcript class")):
            self.assertEqual(lookup(ZOO, name, selector), found, (name, selector))

    def test_methods_of(self):
        objects = methods_of(EMPTY, "Object")
        self.assertEqual(objects, sorted(objects))
        self.assertEqual(len(objects), 25)
        self.assertEqual(methods_of(ZOO, "Animal"), sorted({*objects, "name", "age:", "="}))
        self.assertEqual(methods_of(ZOO, "Puppy"), sorted({*objects, "name", "age:", "=", "wag", "printString"}))
        classes = methods_of(EMPTY, "Object class")
        self.assertEqual(classes, sorted({*objects, "name", "parent", "new"}))
        self.assertEqual(methods_of(ZOO, "Puppy class"), sorted({*classes, "made", "packs"}))
        for name in ("Puppy", "Dog class", "Trouble", "Integer", "Metaclass class"):
            for selector in methods_of(ZOO, name):
                self.assertIsNotNone(lookup(ZOO, name, selector))

    def test_method_of(self):
        for name, selector, source in (
                ("Dog", "wag", "wag ^ Cage new"), ("Puppy", "name", None), ("Animal", "=", "= other ^ age = other age"),
                ("Cage", "=", None), ("Object", "=", None), ("Object", "isNil", "isNil ^ self == nil"), ("Dog", "isNil", None),
                ("Animal class", "made", "made ^ made"), ("Dog class", "made", None), ("Exception", "signal", None),
                ("Exception", "signal:", "signal: t text := t. ^ self signal"), ("Object class", "new", None),
                ("Exception class", "signal", "signal ^ self new signal"), ("Error class", "signal", None),
                ("Integer", "even", "even ^ self \\\\ 2 = 0"), ("Dog", "bark", None), ("Trouble", "signal", "signal ^ super signal")):
            expected = read_method(source) if source else None
            self.assertEqual(method_of(ZOO, name, selector), expected, (name, selector))

    def test_overridden(self):
        self.assertEqual(overridden(ZOO, "Animal"), [("=", "Object")])
        self.assertEqual(overridden(ZOO, "Dog"), [("name", "Animal")])
        self.assertEqual(overridden(ZOO, "Puppy"), [("printString", "Object"), ("wag", "Dog")])
        self.assertEqual(overridden(ZOO, "Trouble"), [("signal", "Exception"), ("text", "Exception")])
        self.assertEqual(overridden(ZOO, "Cage"), [])
        self.assertEqual(overridden(ZOO, "Animal class"), [("new", "Object class")])
        self.assertEqual(overridden(ZOO, "Dog class"), [])
        self.assertEqual(overridden(EMPTY, "Object"), [])
        self.assertEqual(overridden(EMPTY, "String"), [("=", "Object")])
        self.assertEqual(overridden(EMPTY, "True"), [(selector, "Object") for selector in (
            "and:", "ifFalse:", "ifFalse:ifTrue:", "ifTrue:", "ifTrue:ifFalse:", "or:")])
        self.assertEqual(overridden(EMPTY, "Boolean"), [])

    def test_a_nearer_class_above(self):
        program = ((one("A", methods=("m", "n")), one("B", "A", methods=("m",)), one("C", "B", methods=("n", "m", "copy"))), "")
        self.assertEqual(overridden(program, "C"), [("copy", "Object"), ("m", "B"), ("n", "A")])

    def test_selectors_of_methods(self):
        for selector in ("a" * 40, "k:" * 20, ("a" * 24 + ":") * 4, "Foo", "nil", "+", "~~", "doIt", "ifTrue:"):
            self.assertIn(lookup(ZOO, "Dog", selector), (None, "Object"))
            self.assertIsNone(method_of(ZOO, "Dog", selector))


class ErrorsTest(unittest.TestCase):
    def test_bad_program_first(self):
        for thing in NO_PROGRAMS:
            for arguments, functions in (((thing, None), WITH_A_CLASS), ((thing, None, None), WITH_A_SELECTOR), ((thing,), (tower,))):
                for function in functions:
                    with self.assertRaises(BadProgram) as caught:
                        function(*arguments)
                    self.assertEqual(caught.exception.where, ())
        for function in WITH_A_CLASS:
            with self.assertRaises(BadProgram) as caught:
                function(((one("A"), one("B", methods=("m", "n "))), "x"), None)
            self.assertEqual(caught.exception.where, ("main",))

    def test_bad_class(self):
        for thing in NO_CLASSES:
            for function in WITH_A_CLASS:
                with self.assertRaises(BadClass):
                    function(ZOO, thing)
            for function in WITH_A_SELECTOR:
                with self.assertRaises(BadClass):
                    function(ZOO, thing, None)
        for name in ("Dog", "Dog class"):
            with self.assertRaises(BadClass):
                parent_of(BOX, name)

    def test_bad_selector(self):
        for thing in NO_SELECTORS:
            for function in WITH_A_SELECTOR:
                with self.assertRaises(BadSelector):
                    function(ZOO, "Dog", thing)


if __name__ == "__main__":
    unittest.main()
