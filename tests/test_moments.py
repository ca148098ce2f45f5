"""Point 31: codes_done, moment, deepest and first_at; what 35 tells of stacks in a run."""

import unittest

from cases import all_programs
from runs import EXAMPLES
from samples import BOX, NO_PROGRAMS, one

from imagetalk.errors import BadClass, BadCount, BadProgram, BadSelector
from imagetalk.judged import heights
from imagetalk.machine import codes_done, deepest, first_at, machine, moment
from imagetalk.maker import made_of, make_main

MAIN = ("method", "UndefinedObject", "doIt")
ADD = ((one("A", fields=("n",), methods=("add: k | t | t := k. n := t. ^ self",), class_methods=("of: k ^ self new add: k",)),),
       "| a | a := A of: 3. [:x | a add: x] value: 4. ^ a")
LATE = ((one("L", methods=("blk ^ [true ifTrue: [^ 1]. 2]",)),), "| b | b := L new blk. ^ [b value] on: CannotReturn do: [:e | 7]")


class MomentTest(unittest.TestCase):
    def test_a_short_run(self):
        program = ((), "^ 2 + 3 * 4 < 50 ifTrue: ['a'] ifFalse: [2]")
        rows = [(0, ()), (1, ("2",)), (2, ("2", "3")), (3, ("5",)), (4, ("5", "4")), (5, ("20",)), (6, ("20", "50")), (7, ("true",)), (8, ()), (9, ("'a'",)),
                (11, ("'a'",))]
        for count, (place, values) in enumerate(rows):
            self.assertEqual(moment(program, count), ((*MAIN, place, values, ()),))
        for count in (len(rows), len(rows) + 1, 20000):
            self.assertEqual(moment(program, count), ())
        self.assertEqual(codes_done(program, 5000), len(rows))
        self.assertEqual(deepest(program), 1)

    def test_methods_and_blocks(self):
        # main: class A; int 3; send of: | of:: self; send new; temp; send add: | add: temp; settemp ..
        self.assertEqual(moment(ADD, 2), ((*MAIN, 2, ("A", "3"), ("nil",)),))
        self.assertEqual(moment(ADD, 3), ((*MAIN, 3, (), ("nil",)), ("method", "A class", "of:", 0, (), ("3",))))
        self.assertEqual(moment(ADD, 5), ((*MAIN, 3, (), ("nil",)), ("method", "A class", "of:", 2, ("an A",), ("3",))))
        self.assertEqual(moment(ADD, 7)[2], ("method", "A", "add:", 0, (), ("3", "nil")))
        self.assertEqual(moment(ADD, 9)[2], ("method", "A", "add:", 2, ("3",), ("3", "3")))
        inside = [moment(ADD, count) for count in range(codes_done(ADD, 5000))]
        blocks = [rows[1] for rows in inside if len(rows) > 1 and rows[1][0] == "block"]
        self.assertEqual(blocks[0], ("block", "UndefinedObject", "doIt", 0, (), ("4",)))
        self.assertEqual(max(len(rows) for rows in inside), deepest(ADD))

    def test_activations_without_codes(self):
        program = ((), "[[[3 yourself] ensure: [4]] ifCurtailed: [5]] on: Error do: [:e | 6]")
        kinds = {}
        for count in range(codes_done(program, 5000)):
            for row in moment(program, count):
                kinds[row[:3]] = row[3:]
        for kind, selector in (("ensure", "ensure:"), ("curtail", "ifCurtailed:"), ("handle", "on:do:")):
            self.assertEqual(kinds[(kind, "Block", selector)], (-1, (), ()))
        self.assertEqual(deepest(program), 8)

    def test_a_block_that_waits_for_cannot_return(self):
        found = []
        for count in range(codes_done(LATE, 5000)):
            for row in moment(LATE, count):
                if row[:3] == ("block", "L", "blk"):
                    found.append(row[3:])
        self.assertIn((3, (), ()), found)
        self.assertEqual(found[-1], (3, (), ()))
        self.assertEqual([row for row in found if row[0] == 3], [(3, ("1",), ())] + [(3, (), ())] * (found.count((3, (), ()))))
        self.assertEqual(machine(LATE, 5000)[:2], ("value", "7"))

    def test_variables_of_blocks_done_in_place(self):
        program = ((), "| a | a := 1. true ifTrue: [| b | b := 2. a + b]")
        variables = [moment(program, count)[0][5] for count in range(codes_done(program, 5000))]
        self.assertEqual(variables[0], ("nil", "nil"))
        self.assertEqual(variables[-1], ("1", "2"))

    def test_the_process_that_goes_on(self):
        program = ((), "[3 yourself. 4] fork. Processor yield. ^ 5")
        kinds = [[row[:2] for row in moment(program, count)] for count in range(codes_done(program, 5000))]
        self.assertIn([("block", "UndefinedObject")], kinds)
        self.assertIn([("block", "UndefinedObject"), ("method", "Object")], kinds)
        self.assertEqual(deepest(program), 2)

    def test_counts_at_a_bound(self):
        program = ((), "[true] whileTrue: [3]")
        self.assertEqual(codes_done(program, 0), 5 * 5001)
        self.assertEqual(moment(program, 20000), ((*MAIN, 0, (), ()),))
        self.assertEqual(codes_done(((), "^ 3 + 4"), 0), 3)
        self.assertEqual(codes_done(((), ""), 0), 2)
        self.assertEqual(moment(((), "^ 3"), 2), ())
        down = ((one("D", methods=("m ^ self m",)),), "D new m")
        self.assertEqual(deepest(down), 100)
        self.assertEqual(moment(down, codes_done(down, 5000)), ())
        self.assertEqual(len(moment(down, codes_done(down, 5000) - 1)), 100)

    def test_wrong_arguments(self):
        for thing in NO_PROGRAMS:
            for function in (codes_done, moment):
                with self.assertRaises(BadProgram):
                    function(thing, None)
            with self.assertRaises(BadProgram):
                deepest(thing)
        for count in (None, True, False, -1, "3", [], 10 ** 30):
            for function in (codes_done, moment):
                with self.assertRaises(BadCount):
                    function(((), ""), count)
        with self.assertRaises(BadCount):
            codes_done(((), ""), 5001)
        with self.assertRaises(BadCount):
            moment(((), ""), 20001)
        self.assertEqual(moment(program=((), ""), count=20000), ())
        self.assertEqual(codes_done(program=((), ""), sends=5000), 2)
        self.assertEqual(deepest(program=((), "")), 1)


class FirstAtTest(unittest.TestCase):
    def test_methods(self):
        self.assertEqual(first_at(ADD, "UndefinedObject", "doIt", 0), 0)
        self.assertEqual(first_at(ADD, "UndefinedObject", "doIt", 2), 2)
        self.assertEqual(first_at(ADD, "A class", "of:", 0), 3)
        self.assertEqual(first_at(ADD, "A", "add:", 0), 7)
        self.assertEqual(first_at(ADD, "A", "add:", 1), 8)
        for count in range(codes_done(ADD, 5000)):
            top = moment(ADD, count)[-1]
            if top[0] == "method":
                self.assertLessEqual(first_at(ADD, *top[1:4]), count)
                self.assertEqual(moment(ADD, first_at(ADD, *top[1:4]))[-1][:4], top[:4])

    def test_what_is_never_come_to(self):
        for name, selector, place in (("UndefinedObject", "doIt", 99), ("UndefinedObject", "doIt", -1), ("A", "add:", 10 ** 30), ("A", "foo", 0),
                                      ("A", "of:", 0), ("Object", "add:", 0), ("Object", "==", 0), ("Block", "value:", 0), ("UndefinedObject", "foo", 0)):
            self.assertIsNone(first_at(ADD, name, selector, place))
        self.assertIsNone(first_at(((), "[:x | [x value]] value: 3. [^ 3] value"), "UndefinedObject", "doIt", 9))

    def test_no_blocks_of_it(self):
        program = ((one("A", methods=("m ^ [3. 4. 5. 6. 7. 8]",)),), "^ A new m value")
        self.assertIsNone(first_at(program, "A", "m", 5))
        self.assertEqual(first_at(program, "A", "m", 1), 4)

    def test_methods_of_the_kernel(self):
        self.assertEqual(first_at(((), "^ -3 abs"), "Integer", "abs", 0), 2)
        self.assertEqual(first_at(((), "^ 3 isNil"), "Object", "isNil", 1), 3)
        self.assertIsNone(first_at(((), "^ 3 isNil"), "Integer", "isNil", 1))

    def test_at_the_end_and_too_late(self):
        program = ((), "[true] whileTrue: [3]. ^ 4")
        self.assertIsNone(first_at(program, "UndefinedObject", "doIt", 6))
        self.assertEqual(first_at(program, "UndefinedObject", "doIt", 1), 1)
        slow = ((), "1 to: 1500 do: [:i | i yourself]. ^ 4")
        last = codes_done(slow, 5000)
        self.assertGreater(last, 20000)
        self.assertIsNone(first_at(slow, "UndefinedObject", "doIt", 5))

    def test_errors_and_their_order(self):
        for thing in NO_PROGRAMS:
            with self.assertRaises(BadProgram):
                first_at(thing, None, None, None)
        for name in (None, 7, "Foo", "box", ["Box"], "Box class class"):
            with self.assertRaises(BadClass):
                first_at(BOX, name, None, None)
        for selector in (None, 7, "", "a b", "k:" * 21, ["n"]):
            with self.assertRaises(BadSelector):
                first_at(BOX, "Box", selector, None)
        for place in (None, True, False, "3", [], (3,)):
            with self.assertRaises(BadCount):
                first_at(BOX, "Box", "n", place)
        self.assertIsNone(first_at(program=BOX, name="Box", selector="foo", place=0))


class StacksTest(unittest.TestCase):
    def test_stacks_are_as_high_as_heights_tell(self):
        programs = all_programs()[::3] + [(classes, main) for classes, main, _, _ in EXAMPLES]
        for program in programs:
            known = {}
            for count in range(min(120, codes_done(program, 5000))):
                rows = moment(program, count)
                for number, (kind, name, selector, place, values, _) in enumerate(rows):
                    if kind == "method":
                        key = (name, selector)
                        if key not in known:
                            known[key] = self.heights_of(program, *key)
                        waits = number < len(rows) - 1
                        self.assertEqual(len(values) + (1 if waits else 0), known[key][0][place], (program, count, number))

    def heights_of(self, program, name, selector):
        if selector == "doIt":
            return heights(program, name, make_main(program))
        return heights(program, name, made_of(program, name, selector))


if __name__ == "__main__":
    unittest.main()
