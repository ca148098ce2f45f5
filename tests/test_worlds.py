"""Point 42: Worlds that are stepped, finished, looked at and copied; and points 2, 3, 22, 30, 31 and 53 to 55 within them."""

import random
import unittest

from cases import all_programs
from programmaker import ProgramMaker, WayMaker
from runs import EXAMPLES
from samples import BOX, NO_PROGRAMS, one
from test_oracle import made_programs

from imagetalk.errors import BadCount, BadProgram, NoObject
from imagetalk.machine import codes_done, machine, machine_trace
from imagetalk.walk import walk, walk_trace
from imagetalk.worlds import World, read_world

NO_COUNTS = (None, True, False, -1, "3", [], (3,), 10 ** 30)


def at_end(program):
    world = World(program)
    while world.step(20000) == 20000:
        pass
    return world


class StepTest(unittest.TestCase):
    def test_one_code_after_the_other(self):
        for program in [(classes, main) for classes, main, _, _ in EXAMPLES] + [BOX]:
            world, many = World(program), codes_done(program, 5000)
            for count in range(many):
                self.assertIs(world.ended, False)
                self.assertEqual(world.step(0), 0)
                self.assertEqual(world.step(1), 1)
            self.assertIs(world.ended, True)
            for count in (0, 1, 20000):
                self.assertEqual(world.step(count), 0)
            outcome = machine(program, 5000)
            self.assertEqual((world.shown, world.sends), outcome[2:])
            self.assertEqual(world.finish(5000), outcome)

    def test_many_codes(self):
        program = ((), "| n | n := 0. [n < 2400] whileTrue: [n := n + 1]. ^ n")
        many = codes_done(program, 5000)
        self.assertGreater(many, 20000)
        world = World(program)
        self.assertEqual(world.step(count=20000), 20000)
        self.assertIs(world.ended, False)
        self.assertEqual(world.step(20000), many - 20000)
        self.assertIs(world.ended, True)
        world = World(program)
        self.assertEqual([world.step(7000) for _ in range(5)], [7000, 7000, 7000, min(7000, many - 21000), max(0, many - 28000)])

    def test_what_was_shown_and_sent(self):
        world = World(((), "Transcript show: 'a'. Transcript show: 'b'. ^ 3"))
        found = []
        while not world.ended:
            found.append((world.shown, world.sends))
            world.step(1)
        self.assertEqual(found, [("", 0)] * 3 + [("a", 1)] * 4 + [("ab", 2)] * 3)
        self.assertEqual((world.shown, world.sends), ("ab", 2))

    def test_a_way_out_is_one_code(self):
        program = ((), "^ [[^ 1] ensure: [Transcript show: 'a'. 2]] ensure: [Transcript show: 'b']")
        world = World(program)
        shown = []
        while not world.ended:
            many = world.step(1)
            shown.append((many, world.shown))
        self.assertEqual([row for row in shown if row[1] == "ab"], [(1, "ab")] * 2)
        self.assertEqual(world.finish(0), ("value", "1", "ab", 4))
        self.assertEqual(len(shown), codes_done(program, 5000))

    def test_wrong_counts(self):
        world = World(BOX)
        for count in (*NO_COUNTS, 20001):
            with self.assertRaises(BadCount):
                world.step(count)
        for count in (*NO_COUNTS, 5001):
            with self.assertRaises(BadCount):
                world.finish(count)
            with self.assertRaises(BadCount):
                world.trace(count)
        self.assertEqual(world, World(BOX))
        for thing in NO_PROGRAMS:
            with self.assertRaises(BadProgram):
                World(thing)
        self.assertEqual(World(program=BOX).program(), BOX)


class FinishTest(unittest.TestCase):
    def test_bounds_of_sends(self):
        program = ((), "| n | n := 3 + 4. n := n + 1. Transcript show: n. ^ n * 2")
        world = World(program)
        for sends in (0, 1, 2, 3, 4, 5000):
            self.assertEqual(world.finish(sends), machine(program, sends))
            self.assertEqual(world.trace(sends), machine_trace(program, sends))
        while world.sends < 2:
            world.step(1)
        self.assertEqual(world.finish(0), ("stopped", "sends", "", 2))
        self.assertEqual(world.finish(1), ("stopped", "sends", "", 2))
        self.assertEqual(world.finish(2), ("stopped", "sends", "", 2))
        self.assertEqual(world.finish(3), ("stopped", "sends", "8", 3))
        self.assertEqual(world.finish(sends=4), ("value", "16", "8", 4))
        for sends in (0, 1, 2):
            self.assertEqual(world.trace(sends), machine_trace(program, 2))
        self.assertEqual(world.trace(sends=5000), machine_trace(program, 5000))
        self.assertEqual(world.sends, 2)

    def test_more_sends_than_the_bound_were_done(self):
        """It is stopped at once, even if no send would come any more."""
        world = World(((), "3 yourself. ^ 4"))
        while world.sends < 1:
            world.step(1)
        self.assertEqual([world.finish(sends) for sends in (0, 1, 2)], [("stopped", "sends", "", 1), ("value", "4", "", 1), ("value", "4", "", 1)])
        self.assertEqual(world.trace(0), [(1, "Integer", "yourself")])
        self.assertIs(world.ended, False)

    def test_nothing_changes(self):
        world = World(BOX)
        world.step(20)
        other, objects = world.copy(), world.objects()
        trace = world.trace(5000)
        trace.append("spoiled")
        world.finish(5000)
        self.assertEqual((world, world.objects(), world.trace(5000)), (other, objects, machine_trace(BOX, 5000)))

    def test_ends_of_each_kind(self):
        down = ((one("D", methods=("m ^ self m",)),), "D new m")
        many = "| k | k := 0. [k < 99] whileTrue: [" + "[3]. " * 21 + "k := k + 1]"
        for program, kind in ((((), "^ 3"), ("value", "3")), (((), "1 foo"), ("error", "NotUnderstood")), (((), "Semaphore new wait"), ("stuck", "")),
                              (down, ("stopped", "depth")), (((), many), ("stopped", "objects")), (((), "[true] whileTrue: [3]"), ("stopped", "rounds")),
                              (((), "[3 yourself. true] whileTrue: [3 yourself]"), ("stopped", "sends")),
                              (((), "| a | a := 'ab'. [true] whileTrue: [a := a , a]"), ("stopped", "length")),
                              (((), "| a | a := 77. [true] whileTrue: [a := a * a]"), ("stopped", "digits")),
                              (((), "[true] whileTrue: [Transcript show: 'abcdefghij']"), ("stopped", "signs")),
                              (((), "[true] whileTrue: [[] fork]"), ("stopped", "processes"))):
            world = at_end(program)
            self.assertIs(world.ended, True)
            for sends in (0, 17, 5000):
                self.assertEqual(world.finish(sends)[:2], kind, program)
                self.assertEqual(world.finish(sends), machine(program, 5000))
                self.assertEqual(world.trace(sends), machine_trace(program, 5000))
            self.assertEqual(World(program).finish(5000), machine(program, 5000))


class LookTest(unittest.TestCase):
    def test_objects_on_the_way(self):
        world = World(((), "^ 'a' reversed , 'b'"))
        first = world.objects()
        self.assertEqual(first[55:], [(55, "'a'"), (56, "'b'")])
        world.step(3)
        self.assertEqual(world.objects(), first + [(57, "'a'")])
        world.step(20000)
        self.assertEqual(world.objects(), first + [(57, "'a'"), (58, "'ab'")])
        self.assertIsNot(world.objects(), world.objects())

    def test_fields(self):
        classes = (one("A", fields=("n", "m"), class_fields=("c",), methods=("n: x n := x",), class_methods=("c: x c := x",)), one("B", "A", fields=("k",), class_fields=("d",)))
        world = at_end((classes, "| b | b := B new. b n: 'q'. B c: 3. #(1 x #(2)) yourself. 5 foo: b"))
        numbers = {told: number for number, told in world.objects()}
        self.assertEqual(world.fields(numbers["a B"]), [("n", "'q'"), ("m", "nil"), ("k", "nil")])
        self.assertEqual(world.fields(numbers["A"]), [("c", "nil")])
        self.assertEqual(world.fields(number=numbers["B"]), [("c", "3"), ("d", "nil")])
        self.assertEqual(world.fields(numbers["#(1 #x #(2))"]), [("1", "1"), ("2", "#x"), ("3", "#(2)")])
        self.assertEqual(world.fields(numbers["a Message"]), [("selector", "#foo:"), ("arguments", "#(a B)")])
        self.assertEqual(world.fields(numbers["a NotUnderstood"]), [("text", "nil"), ("message", "a Message"), ("receiver", "5")])
        for word in ("nil", "true", "false", "Object", "B class", "Integer", "'q'", "#x", "Metaclass"):
            self.assertEqual(world.fields(numbers[word]), [], word)

    def test_fields_of_others(self):
        world = at_end(((), "[] value. [] fork. Semaphore new. Error new. Array new. Exception new"))
        numbers = {told: number for number, told in world.objects()}
        for word in ("a Block", "a Process", "a Semaphore", "#()"):
            self.assertEqual(world.fields(numbers[word]), [], word)
        self.assertEqual(world.fields(numbers["an Error"]), [("text", "nil")])

    def test_numbers_that_are_none(self):
        world = World(((), "'a'"))
        self.assertEqual(world.fields(55), [])
        for number in (None, True, False, -1, 56, 10 ** 30, "1", [], (3,)):
            with self.assertRaises(NoObject):
                world.fields(number)
        world.step(20000)
        with self.assertRaises(NoObject):
            world.fields(56)


class CopyTest(unittest.TestCase):
    def test_copies_go_on_apart(self):
        for program in all_programs()[::5] + [BOX]:
            outcome, world = machine(program, 5000), World(program)
            for _ in range(30):
                other = world.copy()
                self.assertIsNot(other, world)
                self.assertEqual(other, world)
                self.assertEqual((other.objects(), other.garbage()), (world.objects(), world.garbage()))
                other.step(3)
                other.collect()
                self.assertEqual((other.finish(5000), world.finish(5000)), (outcome, outcome))
                world.step(2)

    def test_the_same_numbers_and_garbage(self):
        world = World(((), "| a | 'x' reversed. a := #(1) copy. 'y' reversed. Processor me. a at: 1 put: a. ^ a"))
        world.step(20)
        other = world.copy()
        self.assertEqual(other.objects(), world.objects())
        self.assertEqual([other.fields(number) for number, _ in other.objects()], [world.fields(number) for number, _ in world.objects()])
        self.assertEqual(other.garbage(), world.garbage())
        self.assertGreater(other.garbage(), 0)
        other.collect()
        self.assertGreater(world.garbage(), 0)
        self.assertNotEqual(other.objects(), world.objects())

    def test_what_one_does_the_other_does_not(self):
        program = ((one("A", fields=("n",), class_fields=("c",), methods=("n: x n := x", "n ^ n", "lit ^ #(1 2)"), class_methods=("c: x c := x", "c ^ c")),),
                   "| a s | a := A new. s := Semaphore new. [s wait. Transcript show: 'p'] fork. Processor yield. A c: 5. a n: 6. a lit at: 1 put: 9. s signal. "
                   "Processor yield. ^ a lit")
        world = World(program)
        for _ in range(codes_done(program, 5000)):
            other = world.copy()
            other.step(20000)
            self.assertEqual(other.finish(0), machine(program, 5000))
            self.assertEqual(world.finish(5000), machine(program, 5000))
            world.step(1)


class AnyMomentTest(unittest.TestCase):
    def programs(self):
        return all_programs()[1::4] + made_programs(ProgramMaker, 31, 50) + made_programs(WayMaker, 32, 50)

    def test_stopped_written_collected_and_gone_on_with(self):
        chance = random.Random(5)
        for program in self.programs():
            outcome, trace = walk(program, 5000), walk_trace(program, 5000)
            world = World(program)
            for _ in range(60):
                turn = chance.randint(0, 3)
                if turn == 0:
                    world = read_world(world.write())
                elif turn == 1:
                    world.collect()
                elif turn == 2:
                    world = world.copy()
                world.step(chance.choice((1, 2, 3, 7)))
            self.assertEqual((world.finish(5000), world.trace(5000)), (outcome, trace), program)
            while not world.ended:
                world = read_world(world.write())
                world.collect()
                world.step(500)
            self.assertEqual((world.finish(0), world.trace(0)), (outcome, trace), program)


if __name__ == "__main__":
    unittest.main()
