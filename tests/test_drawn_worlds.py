"""Points 11, 13, 42, 43 and 45 together: Worlds at drawn moments whose classes get other fields, also in ways that are refused."""

import random
import unittest

from samples import one

from imagetalk.classes import fields_of, line_of
from imagetalk.errors import BadClass, BadFields, BadProgram, Busy, TalkError
from imagetalk.machine import machine, moment
from imagetalk.programs import is_program, same_program, with_fields
from imagetalk.worlds import World, read_world

BASE = one("Base", fields=("a", "b", "u"), class_fields=("made",), class_methods=("make made := 1. ^ self new a: 3; yourself",),
           methods=("a ^ a", "a: k a := k", "b: k b := k", "sum: o ^ a + o a", "asBlock ^ [a]", "twice ^ [:k | a + k] value: a", "lit ^ #(7 8)",
                    "waitAt: s s wait. ^ a", "boom ^ a // 0", "later ^ [a] fork", "loop ^ self loop"))
SUB = one("Sub", "Base", ("c", "w"), (), ("c ^ c", "c: k c := k", "sum: o ^ (super sum: o) + 1"))
OTHER = one("Other", fields=("o",), methods=("o: k o := k. ^ self", "o ^ o"))
CLASSES = (BASE, SUB, OTHER)
MAINS = ("| x y b z | x := Base make. x lit at: 1 put: 9. y := Sub make. x b: 4. y c: x; b: 7. b := 0. z := Other new o: y twice. "
         "Transcript show: (x sum: y); show: (y sum: x). x a: z o. z o: x. y c: x twice. Transcript show: y c; show: y lit. ^ x a + y a",
         "| x b | x := Sub make. b := x asBlock. x a: 5. Transcript show: b value. b := nil. x c: [:k | x := k]. ^ (x c) value: 3",
         "| x s | x := Sub make. s := Semaphore new. [x waitAt: s] fork. Processor yield. x later. s signal. Processor yield. ^ x boom",
         "| x y | x := Base make. y := Sub make. y a: x. x a: y. #(1 #(2)) yourself. Base new become: x. ^ (Other new o: y) o a")
FIELDS = {"Base": (("a", "b", "u"), ("b", "a", "u"), ("a",), ("a", "b", "u", "v"), ("u", "a", "q"), (), ("a", "a"), ("c", "a"), ("A",), ["a"]),
          "Sub": (("c", "w"), ("w", "c"), ("c",), ("z", "c"), (), ("a", "c"), ("c", "self"), None),
          "Other": (("o",), ("o", "q"), ("q", "o"), ("x", "y", "o"), (), ("o",) * 9, ("o",) + tuple("abcdefgh")),
          "Base class": (("made",),), "Object": ((),), "Nope": ((),)}


def refusal(work, *arguments):
    """The error that something raises, None if none, with what it tells."""
    try:
        work(*arguments)
    except TalkError as error:
        return (type(error), getattr(error, "where", None))
    return None


def fields_told(world):
    """What is told of all fields of all objects."""
    return [world.fields(number) for number, _ in world.objects()]


class DrawnTest(unittest.TestCase):
    def draw(self, chance):
        program = (CLASSES, chance.choice(MAINS))
        world = World(program)
        world.step(chance.randint(0, 170))
        return world

    def check_refused(self, world, name, fields, told):
        """Nothing has changed, and what the program bars is told as with_fields tells it."""
        if name in ("Base", "Sub", "Other") and told[0] != Busy:
            self.assertEqual(refusal(with_fields, world.program(), name, fields), told)
        self.assertIn(told[0], (BadClass, BadFields, BadProgram, Busy))

    def check_changed(self, world, before, name, fields):
        """The class has these fields, and its objects keep those that stand in both."""
        self.assertEqual(world.program(), with_fields(before.program(), name, fields))
        old, new = before.program(), world.program()
        self.assertEqual(world.objects(), before.objects())
        for (number, told), ahead, now in zip(world.objects(), fields_told(before), fields_told(world)):
            kind = told.partition(" ")[2]
            if kind in ("Base", "Sub", "Other"):
                self.assertEqual([row[0] for row in now], list(fields_of(new, kind)))
                self.assertEqual(now, [(field, dict(ahead).get(field, "nil")) for field in fields_of(new, kind)])
                self.assertIs(now == ahead, fields_of(old, kind) == fields_of(new, kind))
            else:
                self.assertEqual(now, ahead)

    def test_worlds_at_drawn_moments(self):
        chance = random.Random(71)
        kinds = {}
        for _ in range(150):
            world = self.draw(chance)
            for _ in range(5):
                name = chance.choice(list(FIELDS)[:3] * 3 + list(FIELDS))
                fields = chance.choice(FIELDS[name])
                before = world.copy()
                told = refusal(world.change_fields, name, fields)
                kinds[told] = kinds.get(told, 0) + 1
                if told is None:
                    self.check_changed(world, before, name, fields)
                else:
                    self.check_refused(world, name, fields, told)
                same = told is not None or same_program(before.program(), world.program()) is None
                self.assertEqual(world.unlike(before), None if same else "program")
                self.assertEqual((world == before, world.write() == before.write()), (same, same))
                world.step(chance.randint(0, 9))
            other = read_world(world.write())
            self.assertIsNone(world.unlike(other))
            self.assertEqual((other.write(), other.garbage()), (world.write(), 0))
            self.assertEqual((world.finish(900), world.trace(900)), (other.finish(900), other.trace(900)))
        self.assertGreater(min(kinds[None], kinds[(Busy, None)], kinds[(BadFields, None)], kinds[(BadClass, None)]), 20)
        self.assertGreater(sum([many for told, many in kinds.items() if told is not None and told[0] == BadProgram]), 20)

    def test_changed_ahead_of_the_run(self):
        for main in MAINS:
            for name in ("Base", "Sub", "Other"):
                for fields in FIELDS[name]:
                    world = World((CLASSES, main))
                    told = refusal(world.change_fields, name, fields)
                    if told is None:
                        changed = with_fields((CLASSES, main), name, fields)
                        self.assertTrue(is_program(changed))
                        self.assertEqual(world, World(changed))
                        self.assertEqual(world.finish(900), machine(changed, 900))
                        world.step(60)
                        self.assertEqual(moment(changed, 60) == (), world.ended)

    def test_again_and_again(self):
        world = World((CLASSES, MAINS[0]))
        world.step(5)
        first = world.copy()
        for _ in range(40):
            world.change_fields("Other", ("o", "q"))
            world.change_fields("Other", ("o",))
        self.assertEqual(world, first)
        self.assertEqual(world.write(), first.write())
        self.assertEqual(world.finish(900), machine((CLASSES, MAINS[0]), 900))

    def test_kernel_methods_are_found_as_before(self):
        world = World((CLASSES, "| x | x := Base new. Transcript show: x isNil. Transcript show: 3 isNil. Transcript show: x isNil. ^ x yourself"))
        while world.shown != "false":
            world.step(1)
        world.change_fields("Sub", ("c", "w", "z"))
        world.put_method("Base", "isNil ^ 8")
        world.put_method("Base", "yourself ^ 7")
        self.assertEqual(world.finish(900)[:3], ("value", "7", "falsefalse8"))
        self.assertEqual(world.finish(900), read_world(world.write()).finish(900))
        world.drop_method("Base", "isNil")
        world.change_fields("Other", ("q", "o"))
        self.assertEqual(world.finish(900)[:3], ("value", "7", "falsefalsefalse"))

    def test_asking_for_classes_changes_nothing(self):
        world = World((CLASSES, MAINS[3]))
        other = World((CLASSES, MAINS[3]))
        for _ in range(60):
            fields_told(world)
            self.assertEqual((world.unlike(other), world.write()), (None, other.write()))
            self.assertEqual([told for _, told in world.objects()[3:55:2]] + ["Base", "Sub", "Other"], [told for _, told in other.objects()[3:61:2]])
            world.step(1)
            other.step(1)
        self.assertEqual([world.objects()[number][1] for number in (55, 57, 59)], ["Base", "Sub", "Other"])
        self.assertEqual([row[0] for row in world.fields(55)], list(fields_of(world.program(), "Base class")))
        self.assertEqual(world.fields(57), [("made", "1")] if ("Sub class", "make") in [row[1:] for row in world.trace(900)] else [("made", "nil")])
        self.assertEqual(line_of(world.program(), "Sub class")[:2], ["Sub class", "Base class"])


if __name__ == "__main__":
    unittest.main()
