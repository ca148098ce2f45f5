"""Points 50 to 52: a run gone through step by step, and back."""

import random
import unittest

from cases import all_programs
from programmaker import ProgramMaker, WayMaker
from runs import EXAMPLES
from samples import BOX, NO_PROGRAMS, one
from test_oracle import made_programs

from imagetalk.errors import BadClass, BadCount, BadLog, BadNumber, BadProgram, BadSelector, Late, NothingToUndo, NotThat
from imagetalk.machine import codes_done, deepest, machine, moment
from imagetalk.stepper import Stepper, replayed

MAIN = ("method", "UndefinedObject", "doIt")
GO = ((one("A", fields=("n",), methods=("go ^ 3 + 4", "deep: x | y | y := self go. ^ [:z | x + y + z] value: 5", "n: x n := x", "err ^ 1 // 0",
                                        "home ^ [^ 7] value", "safe ^ [self err] on: ZeroDivide do: [:e | e return: 9]", "guard ^ [self go] ensure: [self n: 3]",
                                        "cut ^ [^ 1] ensure: [self go]", "tidy ^ [self err] ifCurtailed: [self go]")),), "| a | a := A new. ^ a go")


def program_of(main):
    return (GO[0], "| a | a := A new. " + main)


def at_main(main, many=4):
    """A Stepper behind the making of an A."""
    stepper = Stepper(program_of(main))
    stepper.until(many)
    return stepper


def kinds(stepper):
    return [row[0] if row[0] != "method" else row[2] for row in stepper.frames()]


class IntoTest(unittest.TestCase):
    def test_methods_begin_and_end(self):
        stepper = Stepper(GO)
        rows = []
        while stepper.into():
            rows.append((stepper.codes_done, stepper.frames()))
        self.assertEqual(rows, [(6, (MAIN + (6,), ("method", "A", "go", 0))), (10, (MAIN + (6,),)), (11, ())])
        self.assertIs(stepper.ended, True)
        self.assertEqual([stepper.into(), stepper.over(), stepper.out(), stepper.until(11), stepper.run_to("A", "go")], [False] * 5)

    def counts(self, main, many=4):
        stepper = at_main(main, many)
        rows = []
        while stepper.into():
            rows.append(kinds(stepper))
        self.assertIs(stepper.ended, True)
        return rows

    def test_what_is_done_by_rule_is_none(self):
        self.assertEqual(self.counts("^ 3 + 4 * 5"), [[]])
        self.assertEqual(self.counts("^ #(1 2) at: 1 put: 3"), [[]])

    def test_guards_and_handlers(self):
        self.assertEqual(self.counts("a guard"), [["doIt", "guard"], ["doIt", "guard", "ensure", "block"], ["doIt", "guard", "ensure", "block", "go"],
                                                  ["doIt", "guard", "ensure", "block"], ["doIt", "guard", "ensure", "block"],
                                                  ["doIt", "guard", "ensure", "block", "n:"], ["doIt", "guard", "ensure", "block"], ["doIt", "guard"], ["doIt"], []])
        self.assertEqual(self.counts("a safe"), [["doIt", "safe"], ["doIt", "safe", "handle", "block"], ["doIt", "safe", "handle", "block", "err"],
                                                 ["doIt", "safe", "handle", "block", "err", "block"], ["doIt", "safe"], ["doIt"], []])
        self.assertEqual(self.counts("a home"), [["doIt", "home"], ["doIt", "home", "block"], ["doIt"], []])
        self.assertEqual(self.counts("a cut"), [["doIt", "cut"], ["doIt", "cut", "ensure", "block"], ["doIt", "cut", "ensure", "block"],
                                                ["doIt", "cut", "ensure", "block", "go"], ["doIt", "cut", "ensure", "block"], ["doIt"], []])

    def test_an_error_ends_nothing_of_main(self):
        stepper = at_main("a err")
        self.assertIs(stepper.into(), True)
        self.assertEqual(kinds(stepper), ["doIt", "err"])
        self.assertIs(stepper.into(), False)
        self.assertEqual((stepper.ended, stepper.frames(), stepper.codes_done), (True, (), codes_done(program_of("a err"), 5000)))

    def test_processes(self):
        stepper = Stepper(((), "[3. Processor yield. 4] fork. Processor yield. Processor yield. ^ 5"))
        rows = []
        while stepper.into():
            rows.append(kinds(stepper))
        self.assertEqual(rows, [["block"], ["doIt"], []])
        stepper = Stepper(((), "| p | p := [Semaphore new wait] fork. Processor yield. p terminate. ^ 5"))
        self.assertEqual([stepper.into(), kinds(stepper)], [True, ["block"]])
        self.assertEqual([stepper.into(), stepper.ended], [True, True])
        stepper = Stepper(((), "| p | p := [[Semaphore new wait] ensure: [3]] fork. Processor yield. p terminate. ^ 5"))
        rows = []
        while stepper.into():
            rows.append(kinds(stepper))
        self.assertEqual(rows, [["block"], ["block", "ensure", "block"], ["doIt", "block"], ["doIt"], []])
        stepper = Stepper(((), "[1 // 0] fork. Processor yield. ^ 5"))
        self.assertEqual([stepper.into(), kinds(stepper), stepper.into(), kinds(stepper)], [True, ["block"], True, ["doIt"]])

    def test_ends_with_the_same_code(self):
        stepper = Stepper(((), "[3] fork. Semaphore new wait"))
        self.assertEqual([stepper.into(), stepper.ended], [True, False])
        self.assertEqual([stepper.into(), stepper.ended], [True, True])
        self.assertIs(stepper.into(), False)
        stepper = Stepper(((), "Semaphore new wait"))
        self.assertEqual([stepper.into(), stepper.ended], [False, True])
        down = Stepper(((one("D", methods=("m ^ self m", "k ^ [self k] value")),), "D new m"))
        for _ in range(99):
            self.assertIs(down.into(), True)
        self.assertEqual([down.into(), down.ended], [False, True])
        down = Stepper(((one("D", methods=("k ^ [self k] ensure: [3]",)),), "D new k"))
        for _ in range(66):
            self.assertIs(down.into(), True)
        self.assertEqual((len(down.frames()), down.into(), down.ended), (100, False, True))
        odd = Stepper(((one("D", methods=("j ^ self k", "k ^ [self k] ensure: [3]")),), "D new j"))
        while len(odd.frames()) < 99:
            self.assertIs(odd.into(), True)
        self.assertEqual((len(odd.frames()), odd.into(), odd.ended), (99, True, True))

    def test_codes_without_any(self):
        stepper = Stepper(((), "[true] whileTrue: [3]"))
        with self.assertRaises(Late):
            stepper.into()
        self.assertEqual((stepper.codes_done, stepper.log(), stepper.ended, stepper.frames()), (0, [], False, (MAIN + (0,),)))


class OverTest(unittest.TestCase):
    def test_over(self):
        stepper = Stepper(GO)
        counts = []
        while stepper.over():
            counts.append(stepper.codes_done)
        self.assertEqual(counts, [1, 2, 3, 4, 5, 10, 11])
        self.assertIs(stepper.over(), False)

    def test_whole_expressions(self):
        for main in ("a deep: 2", "a guard", "a safe", "a cut", "a home", "[a go] value", "a go; go"):
            stepper = at_main(main, 5)
            while stepper.over() and not stepper.ended:
                self.assertEqual(kinds(stepper), ["doIt"])
            self.assertIs(stepper.ended, True)

    def test_what_has_ended_itself(self):
        stepper = at_main("a home", 4)
        stepper.into()
        stepper.into()
        self.assertEqual(kinds(stepper), ["doIt", "home", "block"])
        self.assertEqual([stepper.over(), stepper.over(), kinds(stepper)], [True, True, ["doIt"]])
        stepper = at_main("a safe", 4)
        for _ in range(3):
            stepper.into()
        self.assertEqual(kinds(stepper), ["doIt", "safe", "handle", "block", "err"])
        self.assertEqual([stepper.over(), stepper.over(), stepper.over(), kinds(stepper)], [True, True, True, ["doIt", "safe"]])

    def test_other_processes_in_between(self):
        program = ((), "[Transcript show: 'a'. Processor yield. Transcript show: 'b'] fork. 3 yourself. Processor yield. Transcript show: 'm'. Processor yield. ^ 5")
        stepper = Stepper(program)
        shown = []
        while stepper.over():
            shown.append(stepper.shown)
            self.assertIn(kinds(stepper), (["doIt"], []))
        self.assertEqual(sorted(set(shown), key=shown.index), ["", "a", "am", "amb"])

    def test_a_process_that_another_one_ends(self):
        program = ((), "| m | [Semaphore new wait] fork. m := [Processor yield. Processor yield. 3] fork. Processor yield. m terminate. ^ 5")
        stepper = Stepper(program)
        while kinds(stepper) != ["block"] or "yield" not in str(stepper.log()):
            if not stepper.into():
                break
            if kinds(stepper) == ["block"] and stepper.run.going.number == 2:
                break
        self.assertEqual([stepper.out(), kinds(stepper), stepper.ended], [True, ["doIt"], False])

    def test_runs_that_end_on_the_way(self):
        stepper = at_main("a err", 5)
        self.assertEqual([stepper.over(), stepper.ended], [False, True])
        stepper = at_main("a err", 5)
        stepper.into()
        self.assertEqual([stepper.out(), stepper.ended], [False, True])
        stepper = Stepper(((), "Semaphore new wait"))
        self.assertEqual([stepper.over(), stepper.over(), stepper.over(), stepper.ended], [True, True, False, True])
        many = Stepper(((), "| k | k := 0. [k < 99] whileTrue: [" + "[3]. " * 20 + "k := k + 1]. " + "[3]. " * 21))
        while many.over():
            self.assertIs(many.ended, False)
        self.assertIs(many.ended, True)


class OutTest(unittest.TestCase):
    def test_out(self):
        stepper = at_main("a deep: 2")
        stepper.into()
        stepper.into()
        self.assertEqual(kinds(stepper), ["doIt", "deep:", "go"])
        self.assertEqual([stepper.out(), kinds(stepper)], [True, ["doIt", "deep:"]])
        self.assertEqual([stepper.out(), kinds(stepper)], [True, ["doIt"]])
        self.assertEqual([stepper.out(), stepper.ended, stepper.out()], [True, True, False])

    def test_out_of_blocks_by_ways_out(self):
        stepper = at_main("a safe")
        for _ in range(4):
            stepper.into()
        self.assertEqual(kinds(stepper), ["doIt", "safe", "handle", "block", "err", "block"])
        self.assertEqual([stepper.out(), kinds(stepper)], [True, ["doIt", "safe"]])
        stepper = at_main("a cut")
        stepper.into()
        stepper.into()
        self.assertEqual([stepper.out(), kinds(stepper)], [True, ["doIt", "cut", "ensure", "block"]])
        self.assertEqual([stepper.out(), kinds(stepper)], [True, ["doIt"]])

    def test_out_of_main_in_one(self):
        for program in [(classes, main) for classes, main, _, _ in EXAMPLES]:
            outcome, stepper = machine(program, 5000), Stepper(program)
            self.assertIs(stepper.out(), outcome[0] == "value")
            self.assertEqual((stepper.ended, stepper.shown, stepper.codes_done), (True, outcome[2], codes_done(program, 5000)))

    def test_late(self):
        stepper = Stepper(((), "| n | n := 0. [n < 3000] whileTrue: [n := n + 1]. ^ 3"))
        stepper.over()
        log = stepper.log()
        with self.assertRaises(Late):
            stepper.out()
        self.assertEqual((stepper.codes_done, stepper.log()), (1, log))
        stepper.until(20001)
        self.assertEqual((stepper.codes_done, stepper.ended), (20001, False))
        self.assertEqual([stepper.out(), stepper.ended], [False, True])


class RunToTest(unittest.TestCase):
    def test_methods(self):
        stepper = Stepper(program_of("a deep: 2. a go. ^ a isNil"))
        self.assertEqual([stepper.run_to(name="A", selector="go"), kinds(stepper)], [True, ["doIt", "deep:", "go"]])
        self.assertEqual([stepper.run_to("A", "go"), kinds(stepper)], [True, ["doIt", "go"]])
        self.assertEqual([stepper.run_to("Object", "isNil"), kinds(stepper)], [True, ["doIt", "isNil"]])
        self.assertEqual([stepper.run_to("A", "go"), stepper.ended, stepper.run_to("A", "go")], [False, True, False])

    def test_the_class_that_has_it(self):
        classes = (one("P", methods=("m ^ 3",), class_methods=("make ^ self new",)), one("Q", "P", methods=("m ^ super m",)))
        stepper = Stepper((classes, "P make m. ^ Q make m"))
        self.assertEqual([stepper.run_to("P class", "make"), stepper.run_to("P", "m"), stepper.run_to("Q", "m"), stepper.run_to("P", "m"), kinds(stepper)],
                         [True] * 4 + [["doIt", "m", "m"]])
        self.assertIs(Stepper((classes, "P new m")).run_to("Q", "m"), False)
        self.assertIs(Stepper((classes, "Q make")).run_to("Q class", "make"), False)

    def test_guards_of_block(self):
        stepper = Stepper(program_of("a guard. a tidy"))
        self.assertEqual([stepper.run_to("Block", "ensure:"), kinds(stepper)], [True, ["doIt", "guard", "ensure", "block"]])
        self.assertEqual([stepper.run_to("Block", "ifCurtailed:"), kinds(stepper)], [True, ["doIt", "tidy", "curtail", "block"]])
        stepper = Stepper(program_of("a safe"))
        self.assertEqual([stepper.run_to("Block", "on:do:"), kinds(stepper)], [True, ["doIt", "safe", "handle", "block"]])
        self.assertIs(stepper.run_to("Block", "on:do:"), False)
        for name, selector in (("A", "ensure:"), ("Block", "on:do:"), ("Object", "ensure:"), ("Block class", "ensure:")):
            self.assertIs(Stepper(program_of("a guard")).run_to(name, selector), False)

    def test_what_never_begins(self):
        for name, selector in (("Block", "value"), ("Object", "=="), ("Integer", "+"), ("A", "isNil"), ("A", "zork"), ("UndefinedObject", "doIt"), ("Object class", "new"),
                               ("Block", "value:"), ("Processor class", "yield")):
            stepper = Stepper(program_of("[:x | x == 3] value: a + 3"))
            self.assertEqual([stepper.run_to(name, selector), stepper.ended], [False, True], (name, selector))

    def test_what_begins_anew_does_not(self):
        main = "| n | n := 0. ^ [n := n + 1. n < 3 ifTrue: [1 // 0]. n] on: ZeroDivide do: [:e | e retry]"
        stepper = Stepper(((), main))
        self.assertEqual([stepper.run_to("Block", "on:do:"), stepper.run_to("Block", "on:do:"), stepper.ended], [True, False, True])

    def test_at_the_end_with_the_same_code(self):
        down = ((one("D", methods=("k ^ [self k] ensure: [3]", "j ^ self k")),), "D new j")
        stepper = Stepper(down)
        found = 0
        while stepper.run_to("Block", "ensure:"):
            found += 1
        self.assertEqual((stepper.ended, found), (True, 33))
        last = Stepper((down[0], "[D new j] value"))
        found = 0
        while last.run_to("Block", "ensure:"):
            found += 1
        self.assertEqual((last.ended, found), (True, 32))

    def test_errors(self):
        for name in (None, 7, "Foo", "a", ["A"], "A class class"):
            for selector in ("go", None):
                stepper = Stepper(GO)
                with self.assertRaises(BadClass):
                    stepper.run_to(name, selector)
                self.assertEqual((stepper.log(), stepper.codes_done), ([], 0))
        for selector in (None, 7, "", "a b", "k:" * 21, ["go"]):
            stepper = Stepper(GO)
            with self.assertRaises(BadSelector):
                stepper.run_to("A", selector)
            stepper.out()
            with self.assertRaises(BadSelector):
                stepper.run_to("A", selector)


class UntilTest(unittest.TestCase):
    def test_until(self):
        many = codes_done(GO, 5000)
        stepper = Stepper(GO)
        self.assertEqual([stepper.until(0), stepper.codes_done], [True, 0])
        self.assertEqual([stepper.until(count=5), stepper.codes_done], [True, 5])
        self.assertEqual([stepper.until(5), stepper.codes_done], [True, 5])
        self.assertEqual([stepper.until(many), stepper.ended, stepper.codes_done], [True, True, many])
        self.assertEqual([stepper.until(many), stepper.until(many + 1), stepper.until(10 ** 30)], [False] * 3)
        stepper = Stepper(GO)
        self.assertEqual([stepper.until(many + 1), stepper.ended, stepper.codes_done], [False, True, many])
        self.assertEqual(Stepper(GO).until(10 ** 30), False)

    def test_counts_that_are_none(self):
        stepper = Stepper(GO)
        stepper.until(5)
        for count in (None, True, False, 4, 0, -1, "5", [], (5,)):
            with self.assertRaises(BadCount):
                stepper.until(count)
        self.assertEqual((stepper.codes_done, stepper.log()), (5, [("until", 5)]))
        stepper.out()
        with self.assertRaises(BadCount):
            stepper.until(stepper.codes_done - 1)

    def test_late(self):
        ring = ((), "[3. 4. 5. true] whileTrue: [6. 7. 8]")
        stepper = Stepper(ring)
        self.assertIs(stepper.until(20000), True)
        with self.assertRaises(Late):
            stepper.until(40001)
        self.assertEqual((stepper.codes_done, stepper.log(), stepper.frames()), (20000, [("until", 20000)], (moment(ring, 20000)[0][:4],)))
        self.assertIs(stepper.until(40000), True)
        with self.assertRaises(Late):
            stepper.out()
        self.assertIs(stepper.until(60000), True)
        self.assertEqual([stepper.until(codes_done(ring, 5000)), stepper.ended], [True, True])
        self.assertIs(Stepper(ring).until(20000), True)


class LookTest(unittest.TestCase):
    def test_variables_and_values(self):
        stepper = Stepper(program_of("a deep: 2"))
        stepper.run_to("A", "go")
        self.assertEqual(kinds(stepper), ["doIt", "deep:", "go"])
        self.assertEqual(stepper.variables(0), [("self", "nil"), ("a", "an A")])
        self.assertEqual(stepper.variables(1), [("self", "an A"), ("x", "2"), ("y", "nil")])
        self.assertEqual(stepper.variables(number=2), [("self", "an A")])
        stepper.over()
        stepper.over()
        self.assertEqual((stepper.stack(number=2), stepper.stack(1), stepper.stack(0)), (["3", "4"], [], []))
        stepper.out()
        stepper.into()
        self.assertEqual(kinds(stepper), ["doIt", "deep:", "block"])
        self.assertEqual(stepper.variables(2), [("self", "an A"), ("z", "5")])
        self.assertEqual(stepper.variables(1), [("self", "an A"), ("x", "2"), ("y", "7")])
        self.assertIsNot(stepper.variables(1), stepper.variables(1))

    def test_variables_of_blocks_done_in_place(self):
        stepper = Stepper(((), "| a | a := 1. true ifTrue: [| b c | b := 2]. true ifTrue: [| b d | d := 3. [:e | true ifTrue: [| f | f := 4]. e yourself] value: 5]. ^ a"))
        stepper.run_to("Object", "yourself")
        self.assertEqual(stepper.variables(0), [("self", "nil"), ("a", "1"), ("b", "2"), ("c", "nil"), ("b", "nil"), ("d", "3")])
        self.assertEqual(stepper.variables(1), [("self", "nil"), ("e", "5"), ("f", "4")])

    def test_blocks_that_are_alike_but_for_names(self):
        stepper = Stepper(((), "[:x | x yourself] value: 1. [:y | y yourself] value: 2. [[:z | z yourself] value: 3] value"))
        for name in "xyz":
            stepper.run_to("Object", "yourself")
            self.assertEqual([row[0] for row in stepper.variables(len(stepper.frames()) - 2)], ["self", name])

    def test_activations_without_codes(self):
        stepper = Stepper(program_of("a guard. a safe"))
        for selector, kind in (("ensure:", "ensure"), ("on:do:", "handle")):
            stepper.run_to("Block", selector)
            number = kinds(stepper).index(kind)
            self.assertEqual(stepper.frames()[number], (kind, "Block", selector, -1))
            self.assertEqual((stepper.variables(number), stepper.stack(number)), ([("self", "a Block")], []))

    def test_methods_of_the_kernel(self):
        stepper = Stepper(((), "^ #(5 6) inject: 1 into: [:a :b | a + b]"))
        stepper.run_to("Array", "inject:into:")
        self.assertEqual(stepper.variables(1), [("self", "#(5 6)"), ("x", "1"), ("b", "a Block"), ("r", "nil")])
        stepper.run_to("Integer", "to:do:")
        self.assertEqual(stepper.variables(3), [("self", "1"), ("n", "2"), ("b", "a Block"), ("i", "nil")])

    def test_like_moment(self):
        for program in [(classes, main) for classes, main, _, _ in EXAMPLES] + [BOX] + all_programs()[::12]:
            stepper = Stepper(program)
            for count in range(min(60, codes_done(program, 5000))):
                rows = moment(program, count)
                self.assertEqual(stepper.frames(), tuple(row[:4] for row in rows))
                for number, row in enumerate(rows):
                    self.assertEqual((tuple(stepper.stack(number)), tuple(told for _, told in stepper.variables(number)[1:])), row[4:])
                stepper.until(count + 1)

    def test_numbers_that_are_none(self):
        stepper = Stepper(GO)
        stepper.into()
        for number in (None, True, False, -1, 2, 10 ** 30, "0", [], (0,)):
            for method in (stepper.variables, stepper.stack, stepper.restart):
                with self.assertRaises(BadNumber):
                    method(number)
        stepper.out()
        stepper.out()
        self.assertEqual((stepper.ended, stepper.frames()), (True, ()))
        for number in (0, 1, None):
            for method in (stepper.variables, stepper.stack, stepper.restart):
                with self.assertRaises(BadNumber):
                    method(number)

    def test_ends_of_each_kind(self):
        for main in ("^ 3", "1 // 0", "Semaphore new wait", "[true] whileTrue: [Transcript show: 'abcdefghijklmnop']"):
            stepper = Stepper(((), main))
            stepper.out()
            self.assertEqual((stepper.ended, stepper.frames(), stepper.shown), (True, (), machine(((), main), 5000)[2]))
            with self.assertRaises(BadNumber):
                stepper.stack(0)


class RestartTest(unittest.TestCase):
    def test_methods(self):
        stepper = Stepper(program_of("^ a deep: 2"))
        stepper.run_to("A", "go")
        self.assertIsNone(stepper.restart(number=1))
        self.assertEqual(stepper.frames(), (MAIN + (7,), ("method", "A", "deep:", 0)))
        self.assertEqual(stepper.variables(1), [("self", "an A"), ("x", "2"), ("y", "nil")])
        count = stepper.codes_done
        self.assertIs(stepper.out(), True)
        self.assertEqual((kinds(stepper), stepper.stack(0)), (["doIt"], ["14"]))
        self.assertGreater(stepper.codes_done, count)

    def test_main(self):
        stepper = Stepper(program_of("Transcript show: 'x'. ^ a go"))
        stepper.run_to("A", "go")
        self.assertEqual(stepper.shown, "x")
        stepper.restart(0)
        self.assertEqual((stepper.frames(), stepper.variables(0), stepper.stack(0)), ((MAIN + (0,),), [("self", "nil"), ("a", "nil")], []))
        stepper.out()
        self.assertEqual((stepper.ended, stepper.shown), (True, "xx"))

    def test_values_are_gone(self):
        stepper = Stepper(program_of("^ 3 + (4 max: a go)"))
        stepper.run_to("A", "go")
        self.assertEqual(stepper.stack(0), ["3", "4"])
        stepper.restart(0)
        self.assertEqual(stepper.stack(0), [])
        stepper.run_to("Integer", "max:")
        self.assertEqual(stepper.stack(0), ["3"])

    def test_blocks_that_were_made_know_it_still(self):
        stepper = Stepper(((), "| b n | n := 1. b isNil ifTrue: [b := [n := 5. n]. Transcript show: b value]. ^ b value"))
        stepper.until(14)
        program = ((one("K", methods=("m: x | t | t := 3. Transcript show: (x value: [t := 4]). 3 yourself. ^ t",)),), "| b | K new m: [:c | b isNil ifTrue: [b := c]. b value]")
        stepper = Stepper(program)
        stepper.run_to("Object", "yourself")
        self.assertEqual((stepper.variables(1)[2], stepper.shown), (("t", "4"), "4"))
        stepper.restart(1)
        self.assertEqual(stepper.variables(1)[2], ("t", "nil"))
        stepper.run_to("Object", "yourself")
        self.assertEqual((stepper.variables(1)[2], stepper.shown), (("t", "4"), "44"))

    def test_blocks(self):
        stepper = Stepper(program_of("^ [:x | | t | t := a go. x + t] value: 5"))
        stepper.run_to("A", "go")
        stepper.out()
        stepper.over()
        self.assertEqual(stepper.variables(1), [("self", "nil"), ("x", "5"), ("t", "7")])
        stepper.restart(1)
        self.assertEqual(stepper.variables(1), [("self", "nil"), ("x", "5"), ("t", "nil")])
        stepper.out()
        self.assertEqual(stepper.stack(0), ["12"])

    def test_guards_above_are_given_up(self):
        stepper = Stepper(program_of("a guard. ^ a"))
        stepper.run_to("A", "go")
        self.assertEqual(kinds(stepper), ["doIt", "guard", "ensure", "block", "go"])
        stepper.restart(1)
        self.assertEqual(kinds(stepper), ["doIt", "guard"])
        self.assertIs(stepper.run_to("A", "n:"), True)
        self.assertIs(stepper.run_to("A", "n:"), False)

    def test_ways_out(self):
        main = "^ [[^ 1] ensure: [Transcript show: 'a'. a go]] ensure: [Transcript show: 'b']"
        stepper = Stepper(program_of(main))
        stepper.run_to("A", "go")
        self.assertEqual(kinds(stepper), ["doIt", "ensure", "block", "ensure", "block", "go"])
        stepper.restart(4)
        stepper.out()
        self.assertEqual(stepper.shown, "aa")
        while stepper.into():
            pass
        self.assertEqual(stepper.shown, "aab")
        stepper = Stepper(program_of(main))
        stepper.run_to("A", "go")
        stepper.restart(2)
        self.assertEqual((kinds(stepper), stepper.shown), (["doIt", "ensure", "block"], "a"))
        while stepper.into():
            pass
        self.assertEqual(stepper.shown, "aab")

    def test_handlers(self):
        main = "^ [[Exception signal] on: Exception do: [:e | Transcript show: 'h'. a go. e resume: 5]] ensure: [Transcript show: 'z']"
        stepper = Stepper(program_of(main))
        stepper.run_to("A", "go")
        self.assertEqual(kinds(stepper), ["doIt", "ensure", "block", "handle", "block", "signal", "block", "go"])
        stepper.restart(6)
        self.assertEqual(kinds(stepper)[-1], "block")
        self.assertEqual(stepper.variables(6)[1], ("e", "an Exception"))
        stepper.out()
        while stepper.into():
            pass
        self.assertEqual(stepper.shown, "hhz")
        stepper = Stepper(program_of(main))
        stepper.run_to("A", "go")
        stepper.restart(4)
        self.assertEqual(kinds(stepper), ["doIt", "ensure", "block", "handle", "block"])
        while stepper.into():
            pass
        self.assertEqual((stepper.shown, stepper.ended), ("hhz", True))

    def test_a_handling_that_is_over(self):
        """Behind the restart of the sender the exception is no more handled."""
        classes = (one("A", fields=("n",), methods=("n: x n := x", "n ^ n", "go ^ 3")), one("Ex", "Exception"))
        stepper = Stepper((classes, "| a | a := A new. ^ [[a n isNil ifTrue: [a n: Ex new. a n signal] ifFalse: [a n return: 3]. 4] on: Ex do: [:e | a go. 9]] "
                                    "on: BadKind do: [:e | Transcript show: 'bad'. 8]"))
        stepper.run_to("A", "go")
        self.assertEqual(kinds(stepper), ["doIt", "handle", "block", "handle", "block", "block", "go"])
        stepper.restart(4)
        while stepper.into():
            pass
        self.assertEqual((stepper.shown, stepper.ended), ("bad", True))

    def test_terminate(self):
        wait = "p := [[[Semaphore new wait] ensure: [a go]] ensure: [Transcript show: 'z']] fork. Processor yield. "
        stepper = Stepper((GO[0], "| a p | a := A new. " + wait + "[p terminate. Transcript show: 'e'] value. ^ 3"))
        stepper.run_to("A", "go")
        self.assertEqual(kinds(stepper), ["doIt", "block", "block", "go"])
        other = replayed((GO[0], "| a p | a := A new. " + wait + "[p terminate. Transcript show: 'e'] value. ^ 3"), stepper.log())
        stepper.restart(2)
        while stepper.into():
            pass
        self.assertEqual(stepper.shown, "ze")
        other.restart(1)
        while other.into():
            pass
        self.assertEqual((other.shown, other.ended), ("e", True))

    def test_main_that_was_ended(self):
        main = "| a m | a := A new. m := Processor me. [[m terminate. Transcript show: 'n'] value] fork. [[Semaphore new wait] ensure: [a go]] ensure: [Transcript show: 'z']"
        for number, shown, ended in ((2, "z", False), (1, "", True), (0, "", True)):
            stepper = Stepper((GO[0], main))
            stepper.run_to("A", "go")
            self.assertEqual(kinds(stepper), ["block", "block", "block", "go"])
            stepper.restart(number)
            self.assertIs(stepper.ended, ended)
            while stepper.into():
                pass
            self.assertEqual((stepper.ended, stepper.shown, stepper.frames()), (True, shown, ()))

    def test_a_block_that_waits_for_cannot_return(self):
        program = ((one("L", methods=("blk ^ [Transcript show: 'x'. ^ 1]",)),), "| b | b := L new blk. ^ [b value] on: CannotReturn do: [:e | 7]")
        stepper = Stepper(program)
        stepper.run_to("Object", "cannotReturn:")
        number = len(stepper.frames()) - 2
        self.assertEqual(kinds(stepper)[number], "block")
        stepper.restart(number)
        self.assertEqual((stepper.frames()[number][3], len(stepper.frames())), (0, number + 1))
        while stepper.into():
            pass
        self.assertEqual((stepper.shown, stepper.ended), ("xx", True))
        program = ((one("L", methods=("blk ^ [3 yourself. Transcript show: 'x'. ^ 1]",)),), program[1])
        stepper = Stepper(program)
        stepper.run_to("Object", "cannotReturn:")
        stepper.restart(len(stepper.frames()) - 2)
        while stepper.into():
            pass
        self.assertEqual((stepper.shown, stepper.ended), ("xx", True))

    def test_refusals(self):
        stepper = Stepper(program_of("a guard"))
        stepper.run_to("A", "go")
        log = stepper.log()
        with self.assertRaises(NotThat):
            stepper.restart(2)
        with self.assertRaises(BadNumber):
            stepper.restart(5)
        self.assertEqual((stepper.log(), kinds(stepper)), (log, ["doIt", "guard", "ensure", "block", "go"]))

    def test_other_processes_stay(self):
        program = (GO[0], "| a | a := A new. [Semaphore new wait] fork. Processor yield. a go. Transcript show: 'm'. ^ 3")
        stepper = Stepper(program)
        stepper.run_to("A", "go")
        stepper.restart(0)
        while stepper.into():
            pass
        self.assertEqual((stepper.ended, stepper.shown), (True, "m"))


def told(stepper):
    """All that can be seen of a Stepper."""
    numbers = range(len(stepper.frames()))
    return (stepper.frames(), [stepper.variables(number) for number in numbers], [stepper.stack(number) for number in numbers], stepper.shown, stepper.ended,
            stepper.codes_done, stepper.log())


class BackTest(unittest.TestCase):
    def test_behind_each_command(self):
        for command in (("into",), ("over",), ("out",), ("run_to", "A", "go"), ("run_to", "A", "zork"), ("until", 9), ("restart", 0)):
            stepper = Stepper(program_of("a deep: 2. Transcript show: 'x'. ^ a go"))
            stepper.until(7)
            before, other = told(stepper), replayed(program_of("a deep: 2. Transcript show: 'x'. ^ a go"), stepper.log())
            getattr(stepper, command[0])(*command[1:])
            self.assertEqual(stepper.log(), [("until", 7), command])
            self.assertNotEqual(stepper, other)
            self.assertIsNone(stepper.back())
            self.assertEqual(told(stepper), before)
            self.assertEqual(stepper, other)
            getattr(stepper, command[0])(*command[1:])
            self.assertEqual(stepper.log(), [("until", 7), command])

    def test_nothing_to_take_back(self):
        stepper = Stepper(GO)
        with self.assertRaises(NothingToUndo):
            stepper.back()
        stepper.into()
        stepper.back()
        with self.assertRaises(NothingToUndo):
            stepper.back()
        self.assertEqual(stepper, Stepper(GO))

    def test_commands_that_did_nothing(self):
        stepper = Stepper(GO)
        stepper.out()
        stepper.into()
        stepper.until(stepper.codes_done)
        self.assertEqual(stepper.log(), [("out",), ("into",), ("until", 11)])
        stepper.back()
        stepper.back()
        self.assertEqual((stepper.log(), stepper.ended), ([("out",)], True))
        stepper.back()
        self.assertEqual((stepper.log(), stepper.ended, stepper.codes_done), ([], False, 0))
        stepper.until(0)
        self.assertEqual(stepper.log(), [("until", 0)])
        self.assertIsNot(stepper.log(), stepper.log())
        stepper.log().append("spoiled")
        self.assertEqual(stepper.log(), [("until", 0)])

    def test_many_commands(self):
        program = ((), "| n | n := 0. #(1 2 3) do: [:e | n := n + e. Transcript show: n]. ^ n")
        stepper = Stepper(program)
        rows = []
        for _ in range(3):
            while True:
                rows.append(told(stepper))
                if len(rows) % 40 == 0:
                    stepper.restart(0)
                elif not stepper.over():
                    break
            while len(rows) > 5 and stepper.log():
                stepper.back()
                self.assertEqual(told(stepper), rows[len(stepper.log())])
            rows = rows[:len(stepper.log())]

    def test_by_chance(self):
        chance = random.Random(11)
        programs = made_programs(ProgramMaker, 81, 25) + made_programs(WayMaker, 82, 35) + [(classes, main) for classes, main, _, _ in EXAMPLES]
        for program in programs:
            stepper, rows = Stepper(program), []
            for _ in range(40):
                if chance.random() < 0.25 and rows:
                    stepper.back()
                    self.assertEqual(told(stepper), rows.pop(), program)
                    continue
                row, many = told(stepper), len(stepper.frames())
                words = [("into",), ("into",), ("over",), ("over",), ("out",), ("run_to", "Object", "doesNotUnderstand:"), ("until", stepper.codes_done + chance.randint(0, 9))]
                command = chance.choice(words + [("restart", chance.randrange(many))] if many else words)
                try:
                    getattr(stepper, command[0])(*command[1:])
                    rows.append(row)
                except (NotThat, Late):
                    self.assertEqual(told(stepper), row)
            other = replayed(program, stepper.log())
            self.assertEqual((other, told(other)), (stepper, told(stepper)))

    def test_long_ways(self):
        program = ((), "| n | n := 0. [n < 2300] whileTrue: [n := n + 1]. ^ n")
        stepper = Stepper(program)
        for count in range(0, 20000, 500):
            stepper.until(count)
        stepper.until(20000)
        for count in range(19500, -1, -500):
            stepper.back()
            self.assertEqual(stepper.codes_done, count)


class ReplayedTest(unittest.TestCase):
    def test_logs(self):
        stepper = Stepper(BOX)
        for command in (("into",), ("over",), ("until", 9), ("run_to", "Box", "add:"), ("restart", 0), ("out",), ("out",), ("into",)):
            getattr(stepper, command[0])(*command[1:])
            other = replayed(program=BOX, log=stepper.log())
            self.assertEqual(other, stepper)
            self.assertEqual(told(other), told(stepper))
        self.assertEqual(replayed(BOX, []), Stepper(BOX))

    def test_wrong_logs(self):
        good = [("into",), ("until", 9)]
        for log in (None, 7, "into", (), (("into",),), {}):
            with self.assertRaises(BadLog) as caught:
                replayed(BOX, log)
            self.assertEqual(caught.exception.place, -1)
        for thing in (None, 7, "into", (), ["into"], ("into", 1), ("zork",), ("back",), ("until",), ("until", 2), ("until", True), ("until", None), ("run_to", "Box"),
                      ("run_to", "Foo", "n"), ("run_to", "Box", 7), ("restart", 7), ("restart", None), ("restart",), (["into"],), (None,), ("log",)):
            for log, place in ((good[:1] + [thing], 1), (good + [thing, thing], 2), (good + [("into",), thing, ("zork",)], 3)):
                with self.assertRaises(BadLog) as caught:
                    replayed(BOX, log)
                self.assertEqual(caught.exception.place, place, thing)
        with self.assertRaises(BadLog) as caught:
            replayed(((), "[3. 4. true] whileTrue: [5]"), [("over",), ("until", 9), ("until", 20010)])
        self.assertEqual(caught.exception.place, 2)
        with self.assertRaises(BadLog) as caught:
            replayed(((), "[[] value] ensure: [3]"), [("run_to", "Block", "ensure:"), ("restart", 1)])
        self.assertEqual(caught.exception.place, 1)
        for thing in NO_PROGRAMS:
            with self.assertRaises(BadProgram):
                replayed(thing, None)
            with self.assertRaises(BadProgram):
                Stepper(thing)

    def test_equality(self):
        one_stepper, other = Stepper(GO), Stepper(GO)
        self.assertEqual(one_stepper, other)
        one_stepper.until(3)
        self.assertNotEqual(one_stepper, other)
        other.over()
        other.over()
        other.over()
        self.assertEqual(told(one_stepper)[:6], told(other)[:6])
        self.assertNotEqual(one_stepper, other)
        for thing in (None, 0, GO, [], Stepper, "x"):
            self.assertIs(one_stepper == thing, False)
        self.assertEqual(Stepper(((), "^ 3")), Stepper(((), "^   3.")))
        self.assertNotEqual(Stepper(((), "^ 3")), Stepper(((), "^ 4")))

    def test_what_is_stepped_ends_alike(self):
        chance = random.Random(12)
        for program in all_programs()[::5] + made_programs(WayMaker, 83, 30):
            outcome, stepper = machine(program, 5000), Stepper(program)
            while not stepper.ended:
                word = chance.choice(("into", "over", "out", "into"))
                try:
                    getattr(stepper, word)()
                except Late:
                    stepper.until(stepper.codes_done + 20000)
                if chance.random() < 0.1:
                    stepper.back()
            self.assertEqual((stepper.shown, stepper.codes_done), (outcome[2], codes_done(program, 5000)), program)
            self.assertGreaterEqual(deepest(program), 1)


if __name__ == "__main__":
    unittest.main()
