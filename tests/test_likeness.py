"""Point 43: equal Worlds, the first word for which they are not, and their texts."""

import random
import unittest

from cases import all_programs
from programmaker import ProgramMaker, WayMaker
from runs import EXAMPLES
from samples import BOX, one
from test_oracle import made_programs

from imagetalk.errors import BadWorld
from imagetalk.programs import same_program
from imagetalk.trees import read_body, read_method, write_body, write_method
from imagetalk.worlds import World, read_world

A = one("A", fields=("n", "m"), class_fields=("c",), methods=("n: x n := x", "n ^ n", "go 3 yourself. 4 yourself. ^ 5", "lit ^ #(1 2)", "blk ^ [n]", "keep: x ^ [x]"),
        class_methods=("c: x c := x",))


def at(program, count):
    world = World(program)
    world.step(count)
    return world


def until_shown(main, text="!", classes=(A,)):
    """A World as it is when a text is shown."""
    world = World((classes, main))
    while not world.shown.endswith(text):
        assert world.step(1) == 1, main
    return world


class UnlikeTest(unittest.TestCase):
    def unlike(self, one_world, other, word):
        for world, counterpart in ((one_world, other), (other, one_world)):
            self.assertEqual(world.unlike(counterpart), word)
            self.assertIs(world == counterpart, word is None)
            self.assertIs(world != counterpart, word is not None)
            self.assertIs(world.write() == counterpart.write(), word is None)

    def test_equal_to_nothing_else(self):
        world = World(BOX)
        self.assertEqual(world, World(BOX))
        self.assertIsNone(world.unlike(other=world))
        for thing in (None, 0, "", (), BOX, world.write(), World, [world]):
            self.assertIs(world == thing, False)
            self.assertIs(world != thing, True)

    def test_programs(self):
        self.unlike(World(((), "^ 3")), World(((), "^   3 \"x\" .")), None)
        self.unlike(World(((), "^ 3")), World(((), "^ 4")), "program")
        self.unlike(World(((A,), "^ 3")), World(((), "^ 3")), "program")
        self.unlike(World(((one("B", methods=("m ^ 3",)),), "")), World(((one("B", methods=("m ^ (3)",)),), "")), None)
        self.unlike(World(((one("B", methods=("m ^ 3", "n")),), "")), World(((one("B", methods=("n", "m ^ 3")),), "")), "program")

    def test_each_word(self):
        self.unlike(at(((), "Transcript show: 'a'. 3"), 3), at(((), "Transcript show: 'a'. 3"), 2), "shown")
        self.unlike(at(((), "3 yourself. 4"), 2), at(((), "3 yourself. 4"), 1), "sends")
        self.unlike(at(((), "[] value. 4"), 1), at(((), "[] value. 4"), 0), "made")
        self.unlike(at(((), "[true] whileTrue: [3]"), 5), at(((), "[true] whileTrue: [3]"), 0), "rounds")
        self.unlike(at(((), "3. 4"), 1), at(((), "3. 4"), 2), "processes")

    def test_traces(self):
        """The same number of sends, one of which was another one: a method was another one for a while."""
        program = ((A,), "A new go. 3")
        one_world, other = World(program), World(program)
        other.put_method("A", "go 3 isNil not. ^ 5")
        while one_world.sends < 4:
            one_world.step(1)
        while other.sends < 4:
            other.step(1)
        other.put_method("A", program[0][0][4][2])
        self.unlike(one_world, other, "trace")

    def test_objects(self):
        """Values, fields, items and signs that differ, brought about by another method for a while."""
        rows = (("A new n: 5. Transcript show: '!'", "n: x n := 6"), ("A c: 5. Transcript show: '!'", "c: x c := nil"),
                ("| a | a := A new n. Transcript show: '!'. ^ a", "n ^ 3"), ("| a | a := A new blk. Transcript show: '!'. ^ a", "blk ^ [m]"),
                ("| a | a := A new lit. a at: 1 put: (A new n). Transcript show: '!'", "n ^ #x"))
        for main, source in rows:
            name = "A class" if source.startswith("c:") else "A"
            one_world, other = World(((A,), main)), World(((A,), main))
            old = [text for text in (*A[4], *A[5]) if text.split(" ")[0] == source.split(" ")[0]][0]
            other.put_method(name, source)
            for world in (one_world, other):
                while world.shown != "!":
                    world.step(1)
            other.put_method(name, old)
            if "#x" in source:
                one_world.put_method(name, "n ^ #x")
                one_world.put_method(name, old)
            self.unlike(one_world, other, None if "n: x" in source else "objects")

    def test_symbols_are_objects(self):
        one_world, other = World(((A,), "3")), World(((A,), "3"))
        other.put_method("A", "go ^ #zork")
        other.put_method("A", A[4][2])
        self.unlike(one_world, other, "objects")
        one_world.put_method("A", "go ^ #zork")
        one_world.put_method("A", A[4][2])
        self.unlike(one_world, other, None)

    def test_made_methods_of_activations(self):
        def stopped(source, old):
            world = World(((A,), "A new go"))
            world.put_method("A", source)
            while world.sends < 3:
                world.step(1)
            world.put_method("A", old)
            return world
        rows = (("go 3 yourself. 4 yourself. ^ 5", "go 3 yourself. 4 yourself. ^ 6", "processes"),
                ("go 3 yourself. 4 yourself. ^ 5", "go 3 yourself. 4 yourself. ^ (5)", None),
                ("go 3 yourself. 4 yourself", "go 3 yourself. 4 yourself. ^ self", None),
                ("go 3 yourself. 4 yourself. ^ 'a'", "go 3 yourself. 4 yourself. ^ 'b'", "processes"))
        for source, other, word in rows:
            self.unlike(stopped(source, "go ^ 1"), stopped(other, "go ^ 1"), word)
        self.unlike(stopped(A[4][2], A[4][2]), stopped("go 3 yourself. 4 yourself. ^ 5", A[4][2]), None)
        with_literal = "go 3 yourself. 4 yourself. ^ 'a'"
        self.unlike(stopped(with_literal, with_literal), stopped(with_literal, with_literal), None)
        self.unlike(stopped(with_literal, "go ^ 1"), stopped(with_literal, "go ^  1"), None)

    def test_literals_of_old_methods_are_other_objects(self):
        source = "go 3 yourself. 4 yourself. ^ 'a'"
        world, other = World(((A,), "A new go")), World(((A,), "A new go"))
        for one_world in (world, other):
            one_world.put_method("A", source)
            while one_world.sends < 3:
                one_world.step(1)
        self.unlike(world, other, None)
        other.put_method("A", source)
        self.unlike(world, other, "objects")
        world.put_method("A", source)
        self.unlike(world, other, None)

    def test_garbage_and_numbers_do_not_count(self):
        world = until_shown("| a b | 'x' reversed. a := 'y' reversed. b := 'z' reversed. Transcript show: '!'. ^ a", classes=())
        other = world.copy()
        self.assertEqual(other.collect(), 1)
        self.unlike(world, other, None)
        self.assertNotEqual(world.objects(), other.objects())
        world.step(20000)
        other.step(20000)
        self.unlike(world, other, None)
        self.unlike(world, world.copy(), None)

    def test_orders_of_processes(self):
        two = "| s t | s := Semaphore new. t := Semaphore new. [%s wait] fork. [%s wait] fork. Processor yield. Transcript show: '!'. s signal. t signal. ^ s"
        worlds = [until_shown(two % pair) for pair in (("s", "s"), ("s", "t"), ("t", "s"))]
        for number, world in enumerate(worlds):
            for other in worlds[:number]:
                self.assertEqual(world.unlike(other), "program")
        def waiting(first, second):
            world = World(((one("W", fields=("s", "t"), methods=("go s := Semaphore new. t := Semaphore new. [self a] fork. [self b] fork",
                                                               "a s wait", "b s wait")),), "W new go. Processor yield. Transcript show: '!'"))
            world.put_method("W", f"a {first} wait")
            world.put_method("W", f"b {second} wait")
            while world.shown != "!":
                world.step(1)
            for source in ("a s wait", "b s wait"):
                world.put_method("W", source)
            return world
        self.unlike(waiting("s", "s"), waiting("s", "s"), None)
        self.unlike(waiting("s", "s"), waiting("s", "t"), "processes")
        self.unlike(waiting("s", "t"), waiting("t", "s"), "processes")

    def test_the_end(self):
        def ended(source):
            world = World(((A,), "^ A new n"))
            world.put_method("A", source)
            world.step(20000)
            world.put_method("A", "n ^ n")
            return world
        self.unlike(ended("n ^ 3"), ended("n ^ 3"), None)
        self.unlike(ended("n ^ 3"), ended("n ^ 4"), "processes")
        self.unlike(ended("n ^ #(1 (2 (3 (4))))"), ended("n ^ #(1 (2 (3 (5))))"), "objects")
        self.unlike(at(((), "Semaphore new wait"), 20000), at(((), "Semaphore new wait"), 2), "sends")

    def test_where_an_exception_is_handled(self):
        """The same exception in two handlers, the one at work in another activation."""
        main = "| e | e := Exception new. [%s] on: Exception do: [:f | Transcript show: '!'. f return: 3]. ^ e"
        world = until_shown(main % "e signal")
        self.unlike(world, read_world(world.write()), None)
        self.assertEqual(world.unlike(until_shown(main % "e signal. 4")), "program")

    def test_each_step_is_unlike_the_one_ahead(self):
        for program in all_programs()[::9] + [BOX]:
            world = World(program)
            while not world.ended and world.sends < 40:
                other = world.copy()
                world.step(1)
                self.assertIn(world.unlike(other), ("shown", "sends", "made", "rounds", "processes"))
                self.assertNotEqual(world.write(), other.write())


class TextsTest(unittest.TestCase):
    def test_characters(self):
        program = ((one("B", methods=("m ^ 'a~b\\c\n!' , #'x\ny'",)),), "Transcript show: 'q\n~\\'. ^ B new m , '~\\n'")
        for count in (0, 3, 20, 20000):
            text = at(program, count).write()
            self.assertTrue(all(" " <= sign <= "~" for sign in text))
            self.assertEqual(read_world(text=text), at(program, count))
            self.assertEqual(read_world(text).finish(5000), World(program).finish(5000))

    def test_sources_as_they_are_written(self):
        program = ((one("B", fields=("n",), class_fields=("c",), methods=("m: x   ^(x) + 3", "n \"c\" n := n ; yourself".replace("n ; yourself", "n foo; bar")),
                        class_methods=("c ^  [ :x | x ]",)),), "  ^B   new  m: ( 4 )")
        written = ((one("B", fields=("n",), class_fields=("c",), methods=tuple(write_method(read_method(text)) for text in program[0][0][4]),
                        class_methods=("c ^[:x | x]",)),), write_body(read_body(program[1])))
        self.assertEqual(read_world(World(program).write()).program(), written)
        self.assertIsNone(same_program(program, written))
        self.assertEqual(read_world(World(program).write()), World(program))
        self.assertEqual(World(written).write(), World(program).write())

    def test_no_garbage(self):
        world = at(((), "'a' reversed. 'b' reversed. ^ 'c' reversed"), 20000)
        self.assertEqual(world.garbage(), 2)
        other = read_world(world.write())
        self.assertEqual((other.garbage(), other.collect()), (0, 0))
        self.assertEqual(len(other.objects()), len(world.objects()) - 2)

    def test_bounds_go_on(self):
        filler = "[3]. " * 20
        program = ((), "| k | k := 0. [k < 99] whileTrue: [" + filler + "k := k + 1. Transcript show: k]. " + filler)
        world = World(program)
        world.step(3000)
        self.assertEqual(read_world(world.write()).finish(5000), World(program).finish(5000))
        self.assertEqual(read_world(world.write()).finish(7), world.finish(7))

    def test_every_moment(self):
        programs = [(classes, main) for classes, main, _, _ in EXAMPLES] + all_programs()[2::6]
        programs += made_programs(ProgramMaker, 41, 25) + made_programs(WayMaker, 42, 25)
        for program in programs:
            world, outcome = World(program), World(program).finish(5000)
            for _ in range(45):
                text = world.write()
                other = read_world(text)
                self.assertIsNone(other.unlike(world), program)
                self.assertEqual((other.write(), other.garbage()), (text, 0))
                self.assertEqual(other.finish(5000), outcome, program)
                world.step(1)

    def test_worlds_that_were_read_are_changed(self):
        chance = random.Random(3)
        for _ in range(30):
            world = World(((A,), "| a b | a := A new. b := a blk. a go. a n: 3. a lit at: 1 put: 7. a go. ^ b value + (a lit at: 1)"))
            for _ in range(8):
                world.step(chance.randint(0, 6))
                other = read_world(world.write())
                source = chance.choice(("go 3 yourself. ^ 4", "lit ^ #(3 4)", "blk ^ [7]", "n: x n := x + 1", "zork ^ 'a'"))
                for one_world in (world, other):
                    one_world.put_method("A", source)
                self.assertIsNone(world.unlike(other))
                self.assertEqual(world.finish(5000), other.finish(5000))
                world = chance.choice((world, other))

    def test_what_is_no_text(self):
        text = World(BOX).write()
        for thing in (None, 7, True, [], (), [text], (text,), text.encode(), World(BOX), {}, 3.5, ""):
            with self.assertRaises(BadWorld):
                read_world(thing)
        for thing in ("x", text[:-1], text[1:], text + "~", " " + text, "imagetalk world", text.replace("~", "\n")):
            with self.assertRaises(BadWorld):
                read_world(thing)


if __name__ == "__main__":
    unittest.main()
