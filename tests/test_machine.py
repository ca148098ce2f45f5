"""Point 30: the machine tells what the walk tells; machine_with."""

import unittest

from cases import LATE, LOG, all_programs
from runs import EXAMPLES, rows_of
from samples import BOX, NO_PROGRAMS, ZOO, one
from test_bounds import DOWN

from imagetalk.errors import BadCount, BadPlaces, BadProgram
from imagetalk.machine import codes_done, machine, machine_trace, machine_with
from imagetalk.maker import made_of, make
from imagetalk.passes import tailed
from imagetalk.programread import read_program
from imagetalk.walk import walk, walk_trace

ANSWER = ("answer",)
TEN = "| s | s := '1234567890'. s := s , s , s , s , s. s := s , s , s , s. s := s , s , s , s , s , s , s , s , s , s. "
BOUNDS = (
    ((DOWN,), "^ Down new to: 98"), ((DOWN,), "^ Down new to: 99"), ((), "[true] whileTrue: []"), ((), "1 to: 6000 do: [:i]"),
    ((), "| n | n := 0. [n < 2499] whileTrue: [n := n + 1]. ^ n"), ((), "| n | n := 0. [n < 2500] whileTrue: [n := n + 1]. ^ n"),
    ((), "| n | n := 1. 200 timesRepeat: [n := n * 10]"), ((), "| n | n := 1. 199 timesRepeat: [n := n * 10]. ^ n"),
    ((), TEN + "^ s"), ((), TEN + "s , 'a'"), ((), TEN + "Transcript show: s; show: ''"), ((), TEN + "Transcript show: s; show: 'a'"),
    ((), "8 timesRepeat: [[3] fork]"), ((), "7 timesRepeat: [[3] fork]"), ((), "2001 timesRepeat: [[3]]"), ((), "| k | k := 0. [k < 2000] whileTrue: [[3]. k := k + 1]"),
    ((), "| k | k := 0. [k < 2001] whileTrue: [[3]. k := k + 1]"), ((), "| b | b := [b value]. b value"), ((), "| b | b := [[b value] ensure: [3]]. b value"),
    ((), "| b | b := [[b value] on: Error do: [:e | 3]]. b value"), ((), "| b | b := [:n | n = 0 ifTrue: [Error signal] ifFalse: [b value: n - 1]]. "
     "[b value: 94] on: Error do: [:e | 3]"), ((), "[1 foo. 3] on: Error do: [:e | e retry]"), ((), "[[true] whileTrue: [Processor yield]] fork. Processor yield. ^ 3"),
    ((), "[[true] whileTrue: [Processor yield]] fork. [true] whileTrue: [Processor yield]"))


def made(*codes, parameters=0, variables=0, blocks=(), literals=(), selector="m"):
    return (selector, tuple(literals), (parameters, variables, tuple(codes), tuple(blocks)))


class MachineTest(unittest.TestCase):
    def check(self, program, sends):
        for in_place in (True, False):
            outcome = walk(program, sends, in_place=in_place)
            self.assertEqual(machine(program, sends, in_place=in_place), outcome, (program, sends))
            trace = walk_trace(program, sends, in_place=in_place)
            self.assertEqual(machine_trace(program, sends, in_place=in_place), trace, (program, sends))
            self.assertEqual(outcome[3], len(trace))
            self.assertLessEqual(outcome[3], sends)

    def test_as_the_walk(self):
        programs = all_programs() + [(classes, main) for classes, main, _, _ in EXAMPLES] + [BOX, ZOO, ((), "")]
        programs += [((), "^ " + expression) for sign in ("=>", "!") for expression, _ in rows_of(sign)]
        for program in programs:
            self.check(program, 5000)

    def test_as_the_walk_for_each_bound_of_sends(self):
        for program in all_programs() + [(classes, main) for classes, main, _, _ in EXAMPLES]:
            for sends in range(min(25, walk(program, 5000)[3] + 1)):
                self.check(program, sends)

    def test_as_the_walk_at_each_bound(self):
        kinds = set()
        for program in BOUNDS:
            kinds.add(machine(program, 5000)[:2])
            for sends in (5000, 4999, 300):
                self.check(program, sends)
        told = {told for kind, told in kinds if kind == "stopped"}
        self.assertEqual(told, {"sends", "depth", "objects", "signs", "length", "digits", "processes", "rounds"})

    def test_by_name_and_wrong_arguments(self):
        program = ((), "^ true ifTrue: [3]")
        self.assertEqual(machine(program=program, sends=9, in_place=False), ("value", "3", "", 2))
        self.assertEqual(machine(program, 9), ("value", "3", "", 0))
        self.assertEqual(machine_trace(program=program, sends=9, in_place=False), [(1, "True", "ifTrue:"), (2, "Block", "value")])
        for function in (machine, machine_trace):
            with self.assertRaises(TypeError):
                function(program, 9, True)
            for thing in NO_PROGRAMS:
                with self.assertRaises(BadProgram):
                    function(thing, None)
            for sends in (True, False, None, -1, 5001, "3", [], 10 ** 30):
                with self.assertRaises(BadCount):
                    function(program, sends)


class PlacesTest(unittest.TestCase):
    def test_none_and_all(self):
        for program in all_programs():
            book = read_program(program)
            places = [(owner, made_of(program, owner, selector)) for owner in book.methods for selector in book.methods[owner]]
            self.assertEqual(machine_with(program, [], 5000), machine(program, 5000))
            self.assertEqual(machine_with(program, places, 5000), machine(program, 5000))

    def test_methods_made_otherwise(self):
        program = ((one("A", methods=("a: n ^ n < 3 ifTrue: [n] ifFalse: [self b: n]", "b: n ^ n * 2")),), "^ (A new a: 2) + (A new a: 4)")
        plain = machine(program, 5000)
        self.assertEqual(plain, ("value", "10", "", 9))
        slow = make(program, "A", "a: n ^ n < 3 ifTrue: [n] ifFalse: [self b: n]", in_place=False)
        self.assertEqual(machine_with(program, [("A", slow)], 5000), ("value", "10", "", 13))
        other = make(program, "A", "b: n ^ n + 100")
        self.assertEqual(machine_with(program=program, places=[("A", other)], sends=5000), ("value", "106", "", 9))
        self.assertEqual(machine_with(program, [("A", other), ("A", slow)], 5000), ("value", "106", "", 13))

    def test_class_methods_and_classes(self):
        program = ((one("A", class_methods=("new ^ 1",)), one("B", "A", class_methods=("new ^ super new + 1",))), "^ B new")
        places = [("A class", make(program, "A class", "new ^ 10"))]
        self.assertEqual(machine_with(program, places, 5000)[1], "11")
        places.append(("B class", make(program, "B class", "new ^ super new * 3")))
        self.assertEqual(machine_with(program, places, 5000)[1], "30")

    def test_literals_are_put_in(self):
        program = ((one("A", methods=("lit ^ #(1 a)", "sym ^ #b")),), "^ A new lit at: 1 put: 'q' asSymbol; yourself")
        thing = made(("lit", 1), ANSWER, literals=(("sym", "q"), ("arr", (("sym", "z"), ("int", 5)))), selector="lit")
        self.assertEqual(machine_with(program, [("A", thing)], 5000)[1], "#(#q 5)")
        same = ((one("A", methods=("lit ^ #(1 a)",)),), "^ A new lit == A new lit")
        self.assertEqual(machine_with(same, [("A", thing)], 5000)[1], "true")
        blocks = "| k | k := 0. [k < 99] whileTrue: [" + "[3]. " * 20 + "k := k + 1]. " + "[3]. " * 19 + "A new. 'q' asSymbol. ^ 7"
        counted = ((one("A", methods=("lit ^ 1",)),), blocks)
        self.assertEqual(machine_with(counted, [], 5000)[:2], ("stopped", "objects"))
        self.assertEqual(machine_with(counted, [("A", thing)], 5000)[:2], ("value", "7"))

    def test_tails(self):
        program = ((one("A", methods=("to: n ^ n < 1 ifTrue: [0] ifFalse: [self to: n - 1]", "go: n n < 1 ifTrue: [^ 7]. ^ self go: n - 1",
                                      "bad ^ self foo", "sup ^ super isNil", "who ^ 3 // 0")),), "^ A new go: {}")
        go = tailed(made_of(program_with(program, 0), "A", "go:"))
        self.assertIn(("tail", "go:", 1), go[2][2])
        self.assertEqual(machine(program_with(program, 99), 5000)[:2], ("stopped", "depth"))
        self.assertEqual(machine_with(program_with(program, 99), [("A", go)], 5000)[:2], ("value", "7"))
        self.assertEqual(machine_with(program_with(program, 600), [("A", go)], 5000)[:2], ("value", "7"))
        for main, told in (("^ [A new bad] on: Error do: [:e | e return: 5]", "5"), ("^ A new sup", "false"), ("^ [A new who] on: ZeroDivide do: [:e | 6]", "6")):
            inside = (program[0], main)
            places = [("A", tailed(made_of(inside, "A", selector))) for selector in ("bad", "sup", "who")]
            self.assertEqual(machine_with(inside, places, 5000)[:2], ("value", told))
            self.assertEqual(machine(inside, 5000)[3], machine_with(inside, places, 5000)[3])

    def test_rounds_by_jumps(self):
        program = ((one("A", methods=("m",)),), "^ A new m")
        self.assertEqual(machine_with(program, [("A", made(("jump", 0)))], 5000), ("stopped", "rounds", "", 2))
        self.assertEqual(machine_with(program, [("A", made(("int", 3), ("jump", 2), ANSWER))], 5000), ("value", "3", "", 2))
        ring = made(("int", 1), ("pop",), ("jump", 0))
        self.assertEqual(machine_with(program, [("A", ring)], 5000), ("stopped", "rounds", "", 2))

    def test_twenty_places(self):
        methods = tuple("m%d ^ %d" % (k, k) for k in range(20))
        program = ((one("A", methods=methods), one("B", methods=("m0 ^ 1",))), "^ A new m7 + A new m19")
        places = [("A", make(program, "A", "m%d ^ 5" % k)) for k in range(20)]
        self.assertEqual(machine_with(program, places, 5000)[1], "10")
        with self.assertRaises(BadPlaces):
            machine_with(program, places + [("B", make(program, "B", "m0 ^ 2"))], 5000)

    def test_what_are_no_places(self):
        program = ((one("A", fields=("n",), methods=("m ^ 3", "k: x ^ x"), class_methods=("c ^ 1",)), one("B", "A")), "^ A new m")
        good = ("A", made(("int", 4), ANSWER))
        self.assertEqual(machine_with(program, [good], 5000)[1], "4")
        for places in (None, (), (good,), {}, "x", 7, [None], [list(good)], [good[:1]], [(*good, 1)], [good, good], [good, ("A", made(("int", 5), ANSWER))],
                       [("B", good[1])], [("A class", good[1])], [("Object", good[1])], [("Foo", good[1])], [(None, good[1])], [("Object class", good[1])],
                       [("A", None)], [("A", made())], [("A", made(("int", 4)))], [("A", made(("field", 1), ANSWER))], [("A", made(ANSWER))],
                       [("A", made(("int", 4), ANSWER, parameters=1, variables=1))], [("A", made(("int", 4), ANSWER, selector="k:"))],
                       [("A", made(("int", 4), ANSWER, selector="foo"))], [("A", made(("int", 4), ANSWER, selector="isNil"))],
                       [("A", made(("class", "Foo"), ANSWER))], [("A", made(("int", 3), ("return",)))], [(["A"], good[1])]):
            with self.assertRaises(BadPlaces):
                machine_with(program, places, None)
        for sends in (None, True, -1, 5001):
            with self.assertRaises(BadCount):
                machine_with(program, [good], sends)
        with self.assertRaises(BadProgram):
            machine_with(((),), None, None)


def program_with(program, number):
    """The program with a number in its main."""
    return (program[0], program[1].format(number))


class SpeedTest(unittest.TestCase):
    def test_many_codes(self):
        main = "| n | n := 0. [n < 2400] whileTrue: [n := n + 1]. ^ n"
        self.assertGreater(codes_done(((LOG, LATE), main), 5000), 20000)


if __name__ == "__main__":
    unittest.main()
