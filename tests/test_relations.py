"""Point 49: returns in lasting blocks, variables that they keep, calls, and methods on no ring."""

import random
import unittest

from cases import all_programs
from programmaker import ProgramMaker
from runs import EXAMPLES
from samples import BOX, NO_PROGRAMS, ZOO, one
from test_oracle import made_programs

from imagetalk.errors import BadProgram
from imagetalk.maker import made_of, make_main
from imagetalk.relations import calls, far_returns, keeps, ringless

MAIN = ("", "doIt")


def program_of(*methods, main="", class_methods=()):
    return ((one("A", fields=("f",), methods=methods, class_methods=class_methods),), main)


class FarReturnsTest(unittest.TestCase):
    def test_returns(self):
        for source, far in (("m ^ 1", False), ("m [^ 1] value", True), ("m ^ [1]", False), ("m true ifTrue: [^ 1]", False), ("m true ifTrue: [^ 1]; yourself", True),
                            ("m [true ifTrue: [^ 1]] value", True), ("m [[^ 1]]", True), ("m true ifTrue: [[^ 1]]", True), ("m [true] whileTrue: [^ 1]", False),
                            ("m true ifTrue: [| t | [t]. ^ 1]", True), ("m true ifTrue: [| t | t. ^ 1]", False), ("m true ifTrue: [:x | ^ 1]", True),
                            ("m ^ true and: [^ false]", False), ("m [^ 1] whileTrue", True), ("m super ifTrue: [^ 1]", True), ("m ^ 2. ", False),
                            ("m: b [b value] whileTrue: [:x | ^ 3]", True)):
            self.assertEqual(far_returns(program_of(source)), [("A", source.split(" ")[0])] if far else [], source)

    def test_all_methods(self):
        program = program_of("b [^ 1] value", "a [^ 2]", "c ^ 3", class_methods=("a [^ 1]", "d ^ 3"), main="[^ 3] value")
        self.assertEqual(far_returns(program=program), [MAIN, ("A", "a"), ("A", "b"), ("A class", "a")])
        self.assertEqual(far_returns(((), "^ [3] value")), [])

    def test_against_made_methods(self):
        for program in all_programs()[::3] + made_programs(ProgramMaker, 71, 60):
            rows = []
            for key in [MAIN] + [(owner, selector) for owner, selector in own_keys(program)]:
                made = make_main(program) if key == MAIN else made_of(program, *key)
                if "('return',)" in str(made):
                    rows.append(key)
            self.assertEqual(far_returns(program), sorted(rows))


def own_keys(program):
    from imagetalk.trees import read_method
    return [(owner, read_method(source)[1]) for name, _, _, _, methods, class_methods in program[0]
            for owner, sources in ((name, methods), (name + " class", class_methods)) for source in sources]


class KeepsTest(unittest.TestCase):
    def test_variables(self):
        for source, names in (("m: x ^ x", ""), ("m: x ^ [x]", "x"), ("m: x | y z | ^ [y := 3]", "y"), ("m: x | y | ^ [[x := 3. y]]".replace("x := 3", "x"), "x y"),
                              ("m: x true ifTrue: [x]", ""), ("m: x true ifTrue: [[x]]", "x"), ("m: x ^ [true ifTrue: [x]]", "x"), ("m: x ^ [:y | y]", ""),
                              ("m: x ^ [:y | [y. f]]", ""), ("m: x | t | [t := x] value. ^ t", "t x"), ("m: x true ifTrue: [| t | t := x]", ""),
                              ("m: x true ifTrue: [| t | [t]]", ""), ("m: x true ifTrue: [| t | [t]. x]", "x"), ("m: x | t | t foo: [t]; bar: [x]", "t x"),
                              ("m: x ^ [self. f. A]", ""), ("at: x put: y ^ [y]", "y"), ("m: x x ifTrue: [3]; yourself", ""), ("m: x 3 ifTrue: [x]; yourself", "x")):
            selector = source.split(" ")[0] if not source.startswith("at:") else "at:put:"
            self.assertEqual(keeps(program_of(source)), [("A", selector, name) for name in names.split()], source)

    def test_main_and_class_methods(self):
        program = program_of("m: x ^ [x]", class_methods=("n | a | ^ [a]",), main="| p q | [q]. ^ p")
        self.assertEqual(keeps(program=program), [("", "doIt", "q"), ("A", "m:", "x"), ("A class", "n", "a")])


class CallsTest(unittest.TestCase):
    def test_the_samples(self):
        self.assertEqual(calls(program=BOX), [(MAIN, ("Box", "add:")), (MAIN, ("Box", "n")), (MAIN, ("Box class", "of:")), (("Box class", "of:"), ("Box", "set:"))])
        self.assertEqual(ringless(program=BOX), [MAIN, ("Box", "add:"), ("Box", "n"), ("Box", "set:"), ("Box class", "of:")])
        self.assertEqual(calls(ZOO), [(MAIN, ("Animal class", "new")), (MAIN, ("Dog", "wag")), (MAIN, ("Puppy", "wag")), (("Dog", "wag"), ("Animal class", "new"))])

    def test_what_stands_in_main_anyway(self):
        program = program_of("value ^ 3", "mustBeBoolean ^ self go", "go ^ 4", main="A")
        self.assertEqual(calls(program), [(MAIN, ("A", "mustBeBoolean")), (MAIN, ("A", "value")), (("A", "mustBeBoolean"), ("A", "go"))])

    def test_symbols_and_super(self):
        program = ((one("A", methods=("foo ^ 1", "bar ^ #foo")), one("B", "A", methods=("foo ^ super foo", "bar ^ super zork", "zork ^ 2"))), "B new bar")
        self.assertEqual(calls(program), [(MAIN, ("A", "bar")), (MAIN, ("B", "bar")), (("B", "bar"), ("B", "zork"))])
        program = (program[0], "B new bar. 3 respondsTo: 4")
        self.assertEqual(calls(program), [(MAIN, ("A", "bar")), (MAIN, ("B", "bar")), (("A", "bar"), ("A", "foo")), (("A", "bar"), ("B", "foo")),
                                          (("B", "bar"), ("B", "zork")), (("B", "foo"), ("A", "foo"))])

    def test_the_rule_of_as_symbol_gives_none(self):
        program = program_of("foo ^ 1", "bar ^ self foo", main="A. 3 perform: 'a' asSymbol")
        self.assertEqual(calls(program), [(("A", "bar"), ("A", "foo"))])
        self.assertEqual(ringless(program), [MAIN, ("A", "bar"), ("A", "foo")])

    def test_rings(self):
        for methods, ringed in ((("go ^ self go",), "go"), (("go ^ self more", "more ^ self go"), "go more"), (("go ^ self more", "more ^ 3"), ""),
                                (("go ^ self more", "more ^ self last", "last ^ self more"), "last more"),
                                (("go #(1) do: [:e | e foo]", "foo ^ 3"), ""), (("go #(1) do: [:e | self go]",), "go"),
                                (("go ^ [3] value", "value ^ self go"), "go value"), (("go 3 timesRepeat: [4]", "value ^ self go"), "go value"),
                                (("go ^ [3]", "value ^ self go"), ""), (("go ^ super go",), "go"), (("isNil ^ super isNil", "go ^ self isNil"), ""), (("go ^ self isNil", "== o ^ self go"), "== go"),
                                (("go ^ [:x | x] value: 3", "value: x ^ 4"), "")):
            program = program_of(*methods, main="A new go")
            selectors = [source.split(" ")[0] for source in methods]
            expected = [MAIN] + [("A", selector) for selector in sorted(selectors) if selector not in ringed.split()]
            self.assertEqual(ringless(program), expected, methods)

    def test_not_reached(self):
        program = program_of("go ^ 3", "loop ^ self loop", main="A new go")
        self.assertEqual(ringless(program), [MAIN, ("A", "go")])
        self.assertEqual(calls(program), [(MAIN, ("A", "go"))])

    def test_rings_of_the_kernel_count(self):
        """The ring goes through kernel methods alone but for one: do: sends value:, which a class has, too."""
        program = program_of("value: x ^ #(1) do: x", main="A new value: 3")
        self.assertEqual(ringless(program), [MAIN])

    def test_errors(self):
        for thing in NO_PROGRAMS:
            for function in (far_returns, keeps, calls, ringless):
                with self.assertRaises(BadProgram):
                    function(thing)

    def test_each_pair_is_of_reached_methods(self):
        chance = random.Random(9)
        for program in [(classes, main) for classes, main, _, _ in EXAMPLES] + chance.sample(all_programs(), 20):
            keys = [MAIN] + own_keys(program)
            for pair in calls(program):
                self.assertTrue(set(pair) <= set(keys))
            rows = ringless(program)
            self.assertEqual(rows, sorted(set(rows)))
            self.assertIn(MAIN, rows)


if __name__ == "__main__":
    unittest.main()
