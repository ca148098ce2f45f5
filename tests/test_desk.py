"""Points 58 and 59: the rows of a desk, their answers and errors."""

import unittest

from cases import all_programs
from runs import EXAMPLES
from samples import BOX, ZOO, deep

from imagetalk.codes import codes_many
from imagetalk.desk import Desk
from imagetalk.errors import BadClass, BadCommand, BadProgram, BadSource, NoMethod, NothingToUndo, TooMany
from imagetalk.machine import machine
from imagetalk.maker import made_of
from imagetalk.programs import same_program
from imagetalk.reach import not_understood, reached

ROWS = ("class Box Object n", "method Box n ^ n", "method Box set: k n := k", "classmethod Box of: k ^ self new set: k", "method Box add: k n := n + k. ^ self",
        "main | b | b := Box of: 2. Transcript show: b n. ^ b add: 3; n")


def desk_with(*rows):
    desk = Desk()
    for row in rows:
        assert desk.say(row) == "ok", row
    return desk


def desk_of(program):
    """A desk that was told a whole program."""
    classes, main = program
    desk = Desk()
    for name, parent, fields, class_fields, _, _ in classes:
        assert class_fields == ()
        desk.say(" ".join(["class", name, parent, *fields]))
    rows = [("method", name, source) for name, _, _, _, methods, _ in classes for source in methods]
    rows += [("classmethod", name, source) for name, _, _, _, _, methods in classes for source in methods]
    for row in rows:
        desk.say(" ".join(row))
    desk.say("main " + main)
    assert desk.program() == program
    return desk


class ChangeTest(unittest.TestCase):
    def test_at_first(self):
        desk = Desk()
        self.assertEqual(desk.program(), ((), ""))
        self.assertEqual([desk.say(row=row) for row in ("run", "walk", "shown", "sends", "reached", "lost", "same")], ["value nil", "value nil", "", "0", "1", "none", "yes"])

    def test_a_program_is_put_together(self):
        desk = desk_with(*ROWS)
        self.assertEqual(desk.program(), ((("Box", "Object", ("n",), (), ("n ^ n", "set: k n := k", "add: k n := n + k. ^ self"), ("of: k ^ self new set: k",)),),
                                          "| b | b := Box of: 2. Transcript show: b n. ^ b add: 3; n"))
        self.assertEqual([desk.say(row) for row in ("run", "shown", "sends", "walk", "same")], ["value 5", "2", "8", "value 5", "yes"])

    def test_classes_and_fields(self):
        desk = desk_with("class A Object", "class B A x y", "class C Error", "class D Exception z")
        self.assertEqual([row[:3] for row in desk.program()[0]], [("A", "Object", ()), ("B", "A", ("x", "y")), ("C", "Error", ()), ("D", "Exception", ("z",))])
        self.assertEqual([desk.say(row) for row in ("fields A a b", "fields B", "fields D class", "fields A")], ["ok"] * 4)
        self.assertEqual([row[2] for row in desk.program()[0]], [(), (), (), ("class",)])

    def test_methods(self):
        desk = desk_with("class A Object", "method A m ^ 1", "method A k ^ 2", "method A m   ^ 3", "classmethod A m ^ 4", "method A class ^ 5", "method A doIt")
        self.assertEqual(desk.program()[0][0][4:], (("m   ^ 3", "k ^ 2", "class ^ 5", "doIt"), ("m ^ 4",)))
        self.assertEqual([desk.say(row) for row in ("drop A m", "drop A class", "drop A class m")], ["ok"] * 3)
        self.assertEqual(desk.program()[0][0][4:], (("k ^ 2", "doIt"), ()))

    def test_sources_are_the_rest(self):
        desk = desk_with("class A Object", "method A m\n  ^ 'a  b'\n", "main  ^ A new m ")
        self.assertEqual(desk.program(), ((("A", "Object", (), (), ("m\n  ^ 'a  b'\n",), ()),), " ^ A new m "))
        self.assertEqual(desk.say("do \n^ 3\n"), "value 3")
        self.assertEqual([desk.say("main "), desk.program()[1], desk.say("do ")], ["ok", "", "value nil"])


class RunTest(unittest.TestCase):
    def test_outcomes(self):
        for program in [(classes, main) for classes, main, _, _ in EXAMPLES] + [BOX] + all_programs()[::20]:
            if any(row[3] for row in program[0]):
                continue
            desk = desk_of(program)
            kind, word, shown, sends = machine(program, 5000)
            for row in ("run", "walk"):
                self.assertEqual(desk.say(row), f"{kind} {word}")
                self.assertEqual((desk.say("shown"), desk.say("sends")), (shown, str(sends)))
            self.assertEqual(desk.say("same"), "yes")

    def test_kinds(self):
        desk = Desk()
        for source, answer in (("^ 3", "value 3"), ("^ 'a'", "value 'a'"), ("1 foo", "error NotUnderstood"), ("Error signal: 'x y'", "error Error: x y"), ("Semaphore new wait", "stuck "),
                               ("[true] whileTrue: [3]", "stopped rounds"), ("", "value nil")):
            self.assertEqual(desk.say("do " + source), answer)
            self.assertEqual(desk.program(), ((), ""))

    def test_shown_and_sends(self):
        desk = desk_with("main Transcript show: 'm'; show: 3. ^ 4")
        self.assertEqual((desk.say("shown"), desk.say("sends")), ("", "0"))
        for row, shown, sends in (("run", "m3", "2"), ("do ^ 3 + 4", "", "1"), ("walk", "m3", "2"), ("do Transcript show: 'q'. 1 foo", "q", "6")):
            desk.say(row)
            self.assertEqual((desk.say("shown"), desk.say("sends")), (shown, sends), row)
        for row in ("same", "reached", "lost", "main ^ 3", "undo", "parent Object"):
            desk.say(row)
            self.assertEqual((desk.say("shown"), desk.say("sends")), ("q", "6"), row)
        for row in ("run ", "do )", "zork", "do foo", "main )"):
            with self.assertRaises(ValueError):
                desk.say(row)
            self.assertEqual((desk.say("shown"), desk.say("sends")), ("q", "6"), row)

    def test_do_is_for_once(self):
        desk = desk_with(*ROWS)
        self.assertEqual([desk.say("do ^ (Box of: 4) n"), desk.say("run")], ["value 4", "value 5"])
        self.assertEqual(desk.program()[1], ROWS[-1][5:])
        self.assertEqual([desk.say("undo"), desk.program()[1]], ["ok", ""])


class QuestionTest(unittest.TestCase):
    def test_codes_and_sources(self):
        desk = desk_of((BOX[0], "^   3"))
        for name, selector in (("Box", "n"), ("Box", "add:"), ("Box class", "of:"), ("Object", "isNil"), ("Integer", "to:do:"), ("Exception class", "signal:")):
            self.assertEqual(desk.say(f"codes {name} {selector}"), str(codes_many(made_of(desk.program(), name, selector))))
        self.assertEqual([desk.say(row) for row in ("source Box n", "source Box add:", "source Box class of:", "source Object isNil", "source Exception class signal")],
                         ["n ^n", "add: k n := n + k. ^self", "of: k ^self new set: k", "isNil ^self == nil", "signal ^self new signal"])
        self.assertEqual(desk.say("codes Box n"), "2")

    def test_parents_and_lookup(self):
        desk = Desk()
        for name, parent, fields, _, _, _ in ZOO[0]:
            desk.say(" ".join(["class", name, parent, *fields]))
        desk.say("method Dog wag ^ 3")
        desk.say("classmethod Animal class ^ 4")
        for row, answer in (("parent Dog", "Animal"), ("parent Dog class", "Animal class"), ("parent Object", "no"), ("parent Object class", "Class"), ("parent Metaclass class", "Class class"),
                            ("understands Puppy wag", "Dog"), ("understands Puppy zork", "no"), ("understands Dog class new", "Object class"), ("understands Dog class", "Object"),
                            ("understands Dog class class", "Animal class"), ("understands Dog isNil", "Object"), ("understands Integer +", "Integer"), ("understands Dog +", "no"),
                            ("understands Trouble signal", "Exception"), ("understands Object class name", "Class")):
            self.assertEqual(desk.say(row), answer, row)

    def test_reached_and_lost(self):
        desk = desk_with(*ROWS)
        self.assertEqual((desk.say("reached"), desk.say("lost")), ("5", "none"))
        self.assertEqual(int(desk.say("reached")), len([key for key in reached(desk.program()) if key[0] in ("", "Box", "Box class")]))
        desk.say("method Box alone ^ self zork")
        self.assertEqual((desk.say("reached"), desk.say("lost")), ("5", "none"))
        desk.say("classmethod Box of: k ^ self new alone; bark: k")
        self.assertEqual((desk.say("reached"), desk.say("lost")), ("5", "Box alone zork"))
        self.assertEqual(desk.say("lost"), " ".join(not_understood(desk.program())[0]))
        desk.say("drop Box alone")
        self.assertEqual(desk.say("lost"), "Box class of: alone")
        desk.say("main Box of: 3. 3 zork: 4")
        self.assertEqual(desk.say("lost"), "doIt zork:")


class UndoTest(unittest.TestCase):
    def test_each_row_that_changes(self):
        desk, programs = desk_with("class A Object", "class B A k", "method A m ^ 1", "method B n ^ 2", "classmethod A c ^ 3"), []
        rows = ("class C B", "fields A x", "fields B", "method A m ^ 7", "method A more ^ 8", "classmethod A c ^ 9", "drop A m", "drop A class c", "main ^ 3", "main ^ 4", "drop B n")
        for row in rows:
            programs.append(desk.program())
            self.assertEqual(desk.say(row), "ok")
            self.assertNotEqual(desk.program(), programs[-1])
        while programs:
            self.assertEqual(desk.say("undo"), "ok")
            self.assertEqual(desk.program(), programs.pop())
        self.assertEqual([desk.say("undo") for _ in range(5)], ["ok"] * 5)
        self.assertEqual(desk.program(), ((), ""))
        for _ in range(2):
            with self.assertRaises(NothingToUndo):
                desk.say("undo")
        self.assertEqual(desk.say("main ^ 3"), "ok")
        self.assertEqual([desk.say("undo"), desk.program()], ["ok", ((), "")])

    def test_rows_that_left_it_equal(self):
        desk = desk_with("class A Object x", "method A m ^ x", "main ^ 3")
        for row in ("fields A x", "method A m ^ x", "main ^ 3", "run", "walk", "do ^ 4", "same", "shown", "reached"):
            desk.say(row)
        self.assertEqual([desk.say("undo"), desk.program()[1]], ["ok", ""])
        self.assertEqual([desk.say("undo"), desk.program()[0][0][4]], ["ok", ()])

    def test_rows_with_errors(self):
        desk = desk_with("main ^ 3", "main ^ 4")
        for row in ("main ^ foo", "main )", "class a Object", "drop A m", "fields A", "method Object m ^ 3", "undone"):
            with self.assertRaises(ValueError):
                desk.say(row)
            self.assertEqual(desk.program(), ((), "^ 4"))
        self.assertEqual([desk.say("undo"), desk.program()], ["ok", ((), "^ 3")])

    def test_back_and_forth(self):
        desk = desk_with("main ^ 3", "main ^ 4")
        desk.say("undo")
        desk.say("main ^ 5")
        self.assertEqual([desk.say("undo"), desk.program()[1], desk.say("undo"), desk.program()[1]], ["ok", "^ 3", "ok", ""])

    def test_desks_stand_apart(self):
        one, other = desk_with("main ^ 3"), desk_with("main Transcript show: 'o'. ^ 4")
        self.assertEqual([one.say("run"), other.say("run"), one.say("shown"), other.say("shown")], ["value 3", "value 4", "", "o"])
        one.say("undo")
        self.assertEqual([one.program()[1], other.program()[1]], ["", "Transcript show: 'o'. ^ 4"])


class ErrorTest(unittest.TestCase):
    def refused(self, desk, error, rows, **fields):
        for row in rows:
            program, seen = desk.program(), (desk.say("shown"), desk.say("sends"))
            with self.assertRaises(error) as caught:
                desk.say(row)
            for field, value in fields.items():
                self.assertEqual(getattr(caught.exception, field), value, row)
            self.assertEqual((desk.program(), (desk.say("shown"), desk.say("sends"))), (program, seen))

    def test_what_is_no_row(self):
        desk = desk_with(*ROWS)
        self.refused(desk, BadCommand, (None, 7, True, b"run", ["run"], ("run",), {}, "", " ", "run ", " run", "Run", "run x", "runs", "walk x", "shown ", "sends x", "reached Box", "lost x", "undo 2",
                                        "same x", "zork", "class", "class A", "class A ", "class  A Object", "class A Object ", "class A  Object", "class A Object x  y", "class A\nB Object",
                                        "fields", "fields ", "fields Box ", "fields Box x  y", "method", "method Box", "method  Box n", "method B\nx n ^ 3", "classmethod Box", "main", "main\n",
                                        "do", "do\n^ 3", "drop", "drop Box", "drop Box ", "drop Box n x", "drop Box class class class", "drop Box klass n", "codes Box", "codes Box n x y",
                                        "source", "source Box", "source Box\nn x", "parent", "parent ", "parent Box x", "parent Box class class", "understands Box", "understands",
                                        "understands Box class n x", "run\n", "undo\n"))

    def test_selectors_that_are_none(self):
        desk = desk_with(*ROWS)
        for selector in ("3", ":", "foo:bar", "a-b", "k:" * 21, "^", "=>", "n\nm", "x" * 41):
            self.refused(desk, BadCommand, [f"{word} {name} {selector}" for word in ("drop", "codes", "source", "understands") for name in ("Box", "Box class", "Zork")])

    def test_sources_that_are_none(self):
        desk = desk_with(*ROWS)
        for word in ("main", "do", "method Box m", "classmethod Box m", "method Zork m", "method Object m"):
            self.refused(desk, BadSource, [f"{word} ^ )"])
        self.refused(desk, BadSource, ["main ^ )", "do ^ )"], place=2)
        self.refused(desk, BadSource, ["method Box ", "method Zork ", "classmethod Box "], place=0)
        self.refused(desk, BadSource, ["main " + " " * 2001, "do \t", "method Box m \u00e4"], place=-1)
        self.refused(desk, BadSource, ["do ^ zork foo )"], place=11)

    def test_classes_that_are_none(self):
        desk = desk_with(*ROWS)
        self.refused(desk, BadClass, ["fields Zork", "fields Object x", "fields box A B", "method Zork m ^ zork", "method Object m ^ 3", "classmethod Zork m ^ 3", "classmethod Object m ^ 3",
                                      "drop Zork n", "drop Object isNil", "drop Zork class n", "drop Object class new", "codes Zork n", "source Zork n", "codes Zork class n", "parent Zork",
                                      "parent Zork class", "parent box", "understands Zork n", "understands Zork class n", "fields Zork " + "x " * 9 + "x"])

    def test_methods_that_are_none(self):
        desk = desk_with(*ROWS)
        self.refused(desk, NoMethod, ["drop Box zork", "drop Box of:", "drop Box class n", "drop Box class", "codes Box zork", "codes Box isNil", "codes Object ==", "codes Integer +",
                                      "source Box zork", "source Object ==", "source Object class new", "source Box class", "codes Object class new"])

    def test_programs_that_are_none(self):
        desk = desk_with(*ROWS)
        self.refused(desk, BadProgram, ["class box Object", "class Object Object", "class Box Object", "class A Zork", "class A Integer", "class A A", "class A Box n", "class A Object N",
                                        "class A Object x x", "class A Object self", "class A Object " + " ".join("abcdefghi"), "class A Error text", "class A\t Object", "class 3 Object"], where=(1,))
        self.refused(desk, BadProgram, ["fields Box N", "fields Box n n", "fields Box n nil", "fields Box 3"], where=(0,))
        self.refused(desk, BadProgram, ["fields Box", "fields Box x"], where=(0, 0, 0))
        self.refused(desk, BadProgram, ["fields Box n k"], where=(0, 0, 1))
        self.refused(desk, BadProgram, ["main ^ zork", "do ^ zork", "do ^ Zork", deep("do ^ zork")], where=("main",))
        self.refused(desk, BadProgram, ["method Box m ^ zork", "method Box ifTrue: x ^ 3", "method Box m | n | ^ 3", "method Box m ^ Zork"], where=(0, 0, 3))
        self.refused(desk, BadProgram, ["classmethod Box of: x ^ n"], where=(0, 1, 0))
        many = desk_with(*[f"class A{k} Object" for k in range(12)])
        self.refused(many, BadProgram, ["class B Object"], where=())

    def test_too_many(self):
        desk = desk_with(*ROWS)
        self.refused(desk, TooMany, [deep("main ^ 3"), deep("do ^ 3"), deep("method Box m ^ 3"), deep("classmethod Box m ^ 3")])

    def test_the_first_that_applies(self):
        desk = desk_with("class A Object")
        self.refused(desk, BadSource, ["method Zork )", deep("method Zork m ^ 3") + " )"])
        self.refused(desk, BadClass, [deep("method Zork m ^ zork"), "drop Zork zork"])
        self.refused(desk, BadProgram, [deep("method A m ^ zork"), deep("main ^ zork")])
        self.refused(Desk(), NothingToUndo, ["undo"])

    def test_equal_but_for_words(self):
        desk = desk_with("main ^ 3")
        self.assertEqual(desk.say("main ^  3"), "ok")
        self.assertIsNone(same_program(desk.program(), ((), "^ 3")))
        self.assertEqual(desk.program(), ((), "^  3"))
        self.assertEqual([desk.say("undo"), desk.program()], ["ok", ((), "^ 3")])


if __name__ == "__main__":
    unittest.main()
