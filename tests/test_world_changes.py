"""Point 45: methods and fields of classes changed while a World stands."""

import random
import unittest

from samples import deep, one

from imagetalk.errors import BadClass, BadFields, BadProgram, BadSource, Busy, NoMethod, TooMany
from imagetalk.machine import machine
from imagetalk.programs import with_fields, with_method, without_method
from imagetalk.worlds import World, read_world

A = one("A", fields=("n", "m"), class_fields=("c",), methods=("n: x n := x", "n ^ n", "m: x m := x", "m ^ m", "go Transcript show: '!'. ^ 'old'", "blk ^ [3]",
                                                              "lit ^ #(1 2)"), class_methods=("make Transcript show: '!'. ^ self new", "c ^ c"))
B = one("B", "A", fields=("k",), methods=("k: x k := x", "k ^ k", "wait Transcript show: '!'. ^ n", "own ^ [k]"))
PROGRAM = ((A, B), "^ A new go")


def until_shown(main, text="!", classes=(A, B)):
    world = World((classes, main))
    while world.shown != text:
        assert world.step(1) == 1, main
    return world


def told(world):
    return [word for _, word in world.objects()]


class MethodsTest(unittest.TestCase):
    def test_put_in_ahead_of_the_run(self):
        world = World(PROGRAM)
        self.assertIsNone(world.put_method(name="A", source="go ^ 'new'"))
        self.assertEqual(world.finish(5000)[:2], ("value", "'new'"))
        self.assertEqual(world.program(), with_method(PROGRAM, "A", "go ^ 'new'"))
        self.assertEqual(World(PROGRAM).program(), PROGRAM)
        world.put_method("A", "more: x ^ 4")
        self.assertEqual(world.program()[0][0][4][-1], "more: x ^ 4")
        world.put_method("A class", "new ^ 5")
        self.assertEqual(world.finish(5000)[:2], ("error", "NotUnderstood"))
        world.put_method("A class", "new ^ super new")
        self.assertEqual(world.finish(5000)[:2], ("value", "'new'"))

    def test_what_comes_is_as_of_the_changed_program(self):
        for source in ("go ^ 'new' , 'er'", "go ^ self k", "go ^ #(a 'b') copy", "go ^ [:x | x] value: 3"):
            world = World(PROGRAM)
            world.put_method("A", source)
            self.assertEqual(world.finish(5000), machine(with_method(PROGRAM, "A", source), 5000))
            self.assertEqual(world.trace(5000), World(world.program()).trace(5000))
            self.assertEqual(read_world(world.write()), world)

    def test_activations_go_on_with_the_old_one(self):
        world = until_shown("| a r | a := A new. r := a go. ^ r , a go")
        world.put_method("A", "go ^ 'new'")
        self.assertEqual(world.finish(5000)[:2], ("value", "'oldnew'"))
        world.drop_method("A", "go")
        self.assertEqual(world.finish(5000)[:2], ("error", "NotUnderstood"))
        world.put_method("A", "go ^ 'other'")
        other = world.copy()
        other.put_method("A", "go ^ 'another'")
        self.assertEqual((world.finish(5000)[1], other.finish(5000)[1]), ("'oldother'", "'oldanother'"))

    def test_blocks_that_are_kept(self):
        classes = (one("A", fields=("n",), methods=("blk: x ^ [n := x. self go]", "go ^ 'old'")),)
        world = until_shown("| b | b := A new blk: 5. Transcript show: '!'. ^ b value", classes=classes)
        world.drop_method("A", "blk:")
        self.assertEqual(world.finish(5000)[:2], ("value", "'old'"))
        world.put_method("A", "go ^ n")
        self.assertEqual(world.finish(5000)[:2], ("value", "5"))

    def test_in_handlers_and_arguments(self):
        classes = (one("A", methods=("go ^ [Error signal] on: Error do: [:e | Transcript show: '!'. e return: self end]", "end ^ 'old'",
                                     "run ^ [^ 1] ensure: [Transcript show: '!'. Transcript show: self end]")),)
        world = until_shown("^ A new go", classes=classes)
        world.put_method("A", "end ^ 'new'")
        world.drop_method("A", "go")
        self.assertEqual(world.finish(5000)[:2], ("value", "'new'"))
        world = until_shown("^ A new run", classes=classes)
        world.put_method("A", "run ^ 7")
        world.put_method("A", "end ^ 'new'")
        self.assertEqual(world.finish(5000)[:3], ("value", "1", "!new"))

    def test_super_and_classes_below(self):
        classes = (one("A", methods=("who ^ 'A'",)), one("B", "A", methods=("ask Transcript show: '!'. ^ super who",)))
        world = until_shown("^ B new ask", classes=classes)
        world.put_method("A", "who ^ 'new'")
        self.assertEqual(world.finish(5000)[1], "'new'")
        world.put_method("B", "who ^ 'B'")
        self.assertEqual(world.finish(5000)[1], "'new'")
        world.drop_method("A", "who")
        self.assertEqual(world.finish(5000)[:2], ("error", "NotUnderstood"))

    def test_kernel_methods_that_are_overridden(self):
        world = World(((one("A"),), "^ A new isNil"))
        self.assertEqual(world.finish(5000)[1], "false")
        world.put_method("A", "isNil ^ 7")
        self.assertEqual(world.finish(5000)[1], "7")
        world.put_method("A", "doesNotUnderstand: m ^ m selector")
        world.drop_method("A", "isNil")
        self.assertEqual(world.finish(5000)[1], "false")

    def test_literals_are_new_objects(self):
        world = World(PROGRAM)
        before = world.objects()
        world.put_method("A", "go ^ #(new 'lit')")
        self.assertEqual(world.objects(), before + [(len(before), "#new"), (len(before) + 1, "'lit'"), (len(before) + 2, "#(#new 'lit')")])
        world.put_method("A", "go ^ #(new)")
        self.assertEqual(world.objects()[len(before) + 3:], [(len(before) + 3, "#(#new)")])
        self.assertEqual(world.collect(), 4)
        self.assertNotIn("'old'", told(world))
        self.assertIn("#(#new)", told(world))

    def test_literals_do_not_count_as_made(self):
        many = "| k | k := 0. [k < 99] whileTrue: [" + "[3]. " * 20 + "k := k + 1]. " + "[3]. " * 19 + "^ A new go"
        world = World(((A,), many))
        self.assertEqual(world.finish(5000)[1], "'old'")
        world.put_method("A", "go ^ #(new 'lit' #(b c))")
        self.assertEqual(world.finish(5000)[:2], ("value", "#(#new 'lit' #(#b #c))"))
        self.assertEqual(World(((A,), many)).unlike(World(((A,), many))), None)

    def test_put_in_and_taken_away_again(self):
        world = World(PROGRAM)
        world.put_method("A", "more ^ 3")
        self.assertIsNone(world.drop_method(name="A", selector="more"))
        self.assertEqual(world, World(PROGRAM))
        world.drop_method("A class", "c")
        self.assertEqual(world.program(), without_method(PROGRAM, "A class", "c"))
        self.assertEqual(world.unlike(World(PROGRAM)), "program")

    def test_the_literals_of_main_stay(self):
        for change in (lambda world: world.put_method("A", "go ^ 'new'"), lambda world: world.drop_method("A", "go"), lambda world: world.change_fields("A", ("m", "n"))):
            world = World(((A,), "#('kept') yourself. ^ 3"))
            world.step(1)
            change(world)
            world.step(20000)
            world.collect()
            self.assertIn("#('kept')", told(world))
            self.assertEqual(read_world(world.write()), world)

    def test_on_a_world_that_has_ended(self):
        world = until_shown("^ A new go")
        world.step(20000)
        outcome = world.finish(0)
        world.put_method("A", "go ^ 'new'")
        world.drop_method("A", "n")
        self.assertIsNone(world.change_fields("A", ("m", "z", "n")))
        self.assertEqual(world.finish(5000), outcome)
        self.assertEqual(world.fields(told(world).index("an A")), [("m", "nil"), ("z", "nil"), ("n", "nil")])


class FieldsTest(unittest.TestCase):
    def test_values_stay_by_name(self):
        main = "| a b | a := A new n: 1; m: 2; yourself. b := B new n: 3; m: 4; k: 5; yourself. Transcript show: '!'. ^ #(0 0 0) copy at: 1 put: a m; at: 2 put: b m; at: 3 put: b k; yourself"
        world = until_shown(main)
        numbers = {word: number for number, word in world.objects()}
        world.drop_method("A", "n:")
        world.drop_method("A", "n")
        world.drop_method("B", "wait")
        before = world.finish(5000)
        world.change_fields(name="A", fields=("z", "m"))
        self.assertEqual(world.fields(numbers["an A"]), [("z", "nil"), ("m", "2")])
        self.assertEqual(world.fields(numbers["a B"]), [("z", "nil"), ("m", "4"), ("k", "5")])
        self.assertEqual(world.finish(5000), before)
        self.assertEqual(before[1], "#(2 4 5)")
        world.change_fields("B", ("q", "k"))
        self.assertEqual(world.fields(numbers["a B"]), [("z", "nil"), ("m", "4"), ("q", "nil"), ("k", "5")])
        self.assertEqual(world.program()[0][0][2:3] + world.program()[0][1][2:3], (("z", "m"), ("q", "k")))
        self.assertEqual(world.finish(5000), before)
        self.assertEqual(read_world(world.write()), world)
        self.assertEqual(read_world(world.write()).finish(5000), before)

    def test_exchanged(self):
        world = until_shown("| a | a := A new n: 1; m: 2; yourself. Transcript show: '!'. a n: 3. ^ a n * 10 + a m")
        world.change_fields("A", ("m", "n"))
        self.assertEqual(world.fields(told(world).index("an A")), [("m", "2"), ("n", "1")])
        self.assertEqual(world.finish(5000)[1], "32")
        self.assertEqual(world.program(), with_fields(until_shown("| a | a := A new n: 1; m: 2; yourself. Transcript show: '!'. a n: 3. ^ a n * 10 + a m").program(), "A", ("m", "n")))

    def test_new_objects_have_them(self):
        world = World(((A, B), "^ B new"))
        world.change_fields("A", ("n", "m", "p", "q"))
        world.step(20000)
        self.assertEqual(world.fields(told(world).index("a B")), [(name, "nil") for name in ("n", "m", "p", "q", "k")])
        self.assertEqual(world.unlike(World(((A, B), "^ B new"))), "program")
        fresh = World(with_fields(((A, B), "^ B new"), "A", ("n", "m", "p", "q")))
        fresh.step(20000)
        self.assertEqual(world, fresh)

    def test_exceptions_keep_their_text(self):
        oops = one("Oops", "Error", fields=("level",), methods=("level: x level := x", "level ^ level"))
        world = until_shown("^ [Oops new level: 5; signal: 'a'] on: Oops do: [:e | Transcript show: '!'. e return: e text]", classes=(oops,))
        world.change_fields("Oops", ("other", "level"))
        number = told(world).index("an Oops")
        self.assertEqual(world.fields(number), [("text", "'a'"), ("other", "nil"), ("level", "5")])
        self.assertEqual(world.finish(5000)[1], "'a'")

    def test_literals_stay_the_same_objects(self):
        world = until_shown("| a | a := A new. a lit at: 1 put: 9. Transcript show: '!'. ^ a lit")
        before = world.objects()
        world.change_fields("A", ("m", "n"))
        self.assertEqual(world.objects(), before)
        self.assertEqual(world.finish(5000)[1], "#(9 2)")
        self.assertEqual(world.garbage(), 0)

    def test_garbage_is_changed_too(self):
        world = until_shown("A new n: 4. Transcript show: '!'")
        self.assertEqual(world.garbage(), 1)
        world.change_fields("A", ("m", "n"))
        self.assertEqual(world.fields(told(world).index("an A")), [("m", "nil"), ("n", "4")])

    def test_copies_stay(self):
        world = until_shown("| a | a := A new n: 1; yourself. Transcript show: '!'. ^ A new n: a n; n")
        other = world.copy()
        world.change_fields("A", ("m", "n", "q"))
        number = told(world).index("an A")
        self.assertEqual(other.fields(number), [("n", "1"), ("m", "nil")])
        self.assertEqual((world.finish(5000), other.finish(5000)), (other.finish(5000), world.finish(5000)))
        other.step(20000)
        self.assertEqual(other.fields(len(other.objects()) - 1), [("n", "1"), ("m", "nil")])
        world.step(20000)
        self.assertEqual(world.fields(len(world.objects()) - 1), [("m", "nil"), ("n", "1"), ("q", "nil")])


class BusyTest(unittest.TestCase):
    def busy(self, main, name="A", fields=("n", "m"), text="!", classes=(A, B)):
        world = until_shown(main, text, classes)
        before, numbers = world.copy(), world.objects()
        with self.assertRaises(Busy):
            world.change_fields(name, fields)
        self.assertEqual((world, world.objects()), (before, numbers))
        world.collect()
        with self.assertRaises(Busy):
            world.change_fields(name, fields)

    def free(self, main, name="A", fields=("n", "m"), text="!", classes=(A, B)):
        world = until_shown(main, text, classes)
        self.assertIsNone(world.change_fields(name, fields))

    def test_activations_of_methods(self):
        self.busy("A new go")
        self.busy("B new wait")
        self.busy("B new wait", "B", ("k",))
        self.free("A new go", "B", ("k",))
        self.free("A make")
        self.free("Transcript show: '!'. A new go")
        self.free("A new n: 3. Transcript show: '!'")

    def test_blocks(self):
        keeps = one("A", fields=("n",), methods=("m ^ [Transcript show: '!']", "k [Transcript show: '!'] value", "far ^ [[3]]"))
        self.busy("A new m value", fields=("n",), classes=(keeps,))
        self.busy("A new k", fields=("n",), classes=(keeps,))
        self.busy("| b | b := A new m. Transcript show: '!'. ^ b", fields=("n",), classes=(keeps,))
        self.busy("| b | b := A new far value. Transcript show: '!'. ^ b", fields=("n",), classes=(keeps,))
        self.free("| b | b := A new m. b := nil. Transcript show: '!'", fields=("n",), classes=(keeps,))
        self.free("A new m. Transcript show: '!'", fields=("n",), classes=(keeps,))

    def test_old_methods(self):
        world = until_shown("A new go. ^ 3")
        world.drop_method("A", "go")
        with self.assertRaises(Busy):
            world.change_fields("A", ("n", "m"))
        world.put_method("A", "go ^ 4")
        with self.assertRaises(Busy):
            world.change_fields("A", ("n", "m"))
        with self.assertRaises(Busy):
            read_world(world.write()).change_fields("A", ("n", "m"))
        world.step(20000)
        self.assertIsNone(world.change_fields("A", ("n", "m")))

    def test_other_processes(self):
        classes = (one("A", fields=("n",), methods=("go Processor yield. ^ 3", "run ^ [Processor yield. 3]")),)
        self.busy("[A new go] fork. Processor yield. Transcript show: '!'. Processor yield", fields=(), classes=classes)
        self.busy("A new run fork. Transcript show: '!'", fields=(), classes=classes)
        self.free("[A new go] fork. Processor yield. Processor yield. Transcript show: '!'", fields=(), classes=classes)
        self.free("| p | p := [A new go] fork. Processor yield. p terminate. Transcript show: '!'", fields=(), classes=classes)

    def test_runs_that_have_ended(self):
        classes = (one("A", fields=("n",), methods=("go 3 foo", "stop [true] whileTrue: [3]", "lock Semaphore new wait", "fine ^ 3", "yield Processor yield")),)
        for main, word in (("A new go", True), ("A new stop", True), ("A new lock", True), ("A new fine", False), ("[A new lock] fork. Processor yield. ^ 3", True),
                           ("[A new go] fork. Processor yield. ^ 3", False), ("A new foo", False)):
            world = World((classes, main))
            while world.step(20000) == 20000:
                pass
            if word:
                with self.assertRaises(Busy):
                    world.change_fields("A", ("m",))
            else:
                world.change_fields("A", ("m",))


class ErrorsTest(unittest.TestCase):
    def refused(self, error, world, method, *arguments, **fields):
        before, objects, program, trace = world.copy(), world.objects(), world.program(), world.trace(5000)
        with self.assertRaises(error) as caught:
            getattr(world, method)(*arguments)
        for field, value in fields.items():
            self.assertEqual(getattr(caught.exception, field), value)
        self.assertEqual((world, world.objects(), world.program(), world.trace(5000)), (before, objects, program, trace))

    def test_put_method(self):
        world = until_shown("^ A new go")
        for name in (None, 7, "Object", "Foo", "Object class", "a", ["A"], "A class class", True):
            for source in ("go ^ 4", "go ^ )", None):
                self.refused(BadClass, world, "put_method", name, source)
        for source, place in ((None, -1), ("", 0), ("go ^ )", 5), ("m ^ zork )", 9), ("x" * 2001, -1)):
            self.refused(BadSource, world, "put_method", "A", source, place=place)
        for name, source, where in (("A", "go ^ zork", (0, 0, 4)), ("A", "more ^ k", (0, 0, 7)), ("A class", "c ^ n", (0, 1, 1)), ("B", "n | n | ^ 3", (1, 0, 4)),
                                    ("A", "ifTrue: x ^ 3", (0, 0, 7)), ("A", "more " + "^ zork" + " foo" * 60, (0, 0, 7))):
            self.refused(BadProgram, world, "put_method", name, source, where=where)
        self.refused(TooMany, world, "put_method", "A", deep("more ^ 3"))
        full = World(((one("F", methods=tuple(f"m{k} ^ {k}" for k in range(20))),), ""))
        self.refused(BadProgram, full, "put_method", "F", "more ^ 3", where=(0,))
        self.refused(BadProgram, full, "put_method", "F", deep("more ^ 3"), where=(0,))
        full.put_method("F", "m3 ^ 7")

    def test_drop_method(self):
        world = until_shown("^ A new go")
        for name in (None, "Object", "Foo", "A class class"):
            self.refused(BadClass, world, "drop_method", name, "zork")
        for selector in (None, 7, "zork", "k", "isNil", "make", "", ["go"], True):
            self.refused(NoMethod, world, "drop_method", "A", selector)
        self.refused(NoMethod, world, "drop_method", "B class", "make")

    def test_change_fields(self):
        world = until_shown("^ A new go")
        for name in (None, 7, "Object", "Foo", "A class", "B class", ["A"]):
            for fields in (("n",), None):
                self.refused(BadClass, world, "change_fields", name, fields)
        for fields in (None, ["n", "m"], "nm", ("N",), ("n", "n"), ("self",), ("nil",), (7,), tuple("abcdefghi"), ("n m",), ("",)):
            self.refused(BadFields, world, "change_fields", "A", fields)
        for name, fields, where in (("A", ("n",), (0, 0, 2)), ("A", (), (0, 0, 0)), ("A", ("n", "m", "k"), (1,)), ("B", ("n",), (1,)), ("B", (), (1, 0, 0)),
                                    ("A", ("n", "m", "x"), (0, 0, 0))):
            self.refused(BadProgram, world, "change_fields", name, fields, where=where)
        self.refused(Busy, world, "change_fields", "A", ("m", "n"))
        self.refused(BadFields, World(((one("E", "Error"),), "")), "change_fields", "E", ["a"])
        self.refused(BadProgram, World(((one("E", "Error"),), "")), "change_fields", "E", ("text",), where=(0,))

    def test_by_chance(self):
        """Changes and steps in any order: what stands is what its text tells, and goes on as that does."""
        chance = random.Random(17)
        main = "| a b r | a := A new n: 1; yourself. b := B new k: a; n: 2; yourself. r := b own. a go. a lit at: 1 put: r. b wait. A make n: 3. ^ a lit"
        for _ in range(40):
            world = World(((A, B), main))
            for _ in range(12):
                world.step(chance.randint(0, 9))
                word = chance.randint(0, 3)
                try:
                    if word == 0:
                        world.put_method("A", chance.choice(("go ^ 5", "lit ^ #(7 a 8)", "n: x n := x. ^ [n]", "zork ^ 'x'", "go Transcript show: 'z'. ^ #q")))
                    elif word == 1:
                        world.drop_method("A", chance.choice(("zork", "go", "m:")))
                    elif word == 2:
                        world.change_fields(*chance.choice((("A", ("m", "n")), ("A", ("n", "z", "m")), ("B", ("k", "p")), ("B", ("p", "k")))))
                    else:
                        world.collect()
                except (NoMethod, Busy):
                    pass
                other = read_world(world.write())
                self.assertIsNone(other.unlike(world))
                self.assertEqual(other.finish(5000), world.finish(5000))
                self.assertEqual(world.copy(), world)


if __name__ == "__main__":
    unittest.main()
