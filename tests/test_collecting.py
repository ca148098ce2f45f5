"""Point 44: what is reached, what is garbage, and collecting at any moment."""

import random
import unittest

from cases import all_programs
from programmaker import ProgramMaker, WayMaker
from runs import EXAMPLES
from samples import one
from test_oracle import made_programs

from imagetalk.machine import codes_done, machine
from imagetalk.worlds import World

A = one("A", fields=("n",), class_fields=("c",), methods=("n: x n := x", "n ^ n", "lit ^ 'lit'", "blk: x ^ [x]", "me ^ [self]", "far: x ^ [[x]]",
                                                          "run: b ^ b value", "two: x | y | y := x. ^ [3]", "old: x Transcript show: '!'. ^ 'literal'"),
        class_methods=("c: x c := x",))

# A String that is made by the run, and how it is told.
MADE = "('ke' , 'pt')"
KEPT = "'kept'"


def until_shown(main, text="!", classes=(A,)):
    """A World as it is when a text is shown."""
    world = World((classes, main))
    while not world.shown.endswith(text):
        assert world.step(1) == 1, main
    return world


def told(world):
    return [word for _, word in world.objects()]


class HeldTest(unittest.TestCase):
    def holds(self, main, many=1, text="!", **more):
        """How many objects told as KEPT are left when a text is shown."""
        world = until_shown(main, text, **more)
        before = told(world).count(KEPT)
        garbage = world.garbage()
        self.assertEqual(len(world.objects()) - garbage, len(world.objects()) - world.copy().collect())
        outcome = world.finish(5000)
        self.assertEqual(world.collect(), garbage)
        self.assertEqual((world.garbage(), world.collect()), (0, 0))
        self.assertEqual(told(world).count(KEPT), many, main)
        self.assertGreaterEqual(before, many)
        self.assertEqual([number for number, _ in world.objects()], list(range(len(world.objects()))))
        self.assertEqual(world.finish(5000), outcome)

    def test_nothing_holds_it(self):
        self.holds(f"{MADE} yourself. Transcript show: '!'", 0)
        self.holds(f"| a | a := {MADE}. a := nil. Transcript show: '!'", 0)
        self.holds(f"| a | a := A new n: {MADE}; yourself. a := nil. Transcript show: '!'", 0)
        self.holds(f"[{MADE}] value. Transcript show: '!'", 0)
        self.holds(f"| a | a := #(1) copy. a at: 1 put: {MADE}. a at: 1 put: a. a := nil. Transcript show: '!'", 0)

    def test_variables_values_and_receivers(self):
        self.holds(f"| a | a := {MADE}. Transcript show: '!'")
        self.holds(f"{MADE} , (Transcript show: '!')")
        self.holds(f"A new foo: {MADE} bar: (Transcript show: '!')")
        self.holds(f"| a | a := A new. a n: {MADE}. Transcript show: '!'")
        self.holds(f"| a | a := Array new: 3. a at: 2 put: {MADE}. Transcript show: '!'")
        self.holds(f"[:x | Transcript show: '!'] value: {MADE}")
        self.holds(f"[:x | [Transcript show: '!'] value] value: {MADE}")
        self.holds(f"{MADE} do: [:x | Transcript show: '!']", text="!!!!")
        self.holds(f"A c: {MADE}. Transcript show: '!'")

    def test_behind_its_end(self):
        self.holds(f"[:x | 3] value: {MADE}. Transcript show: '!'", 0)
        self.holds(f"{MADE} do: [:x | 3]. Transcript show: '!'", 0)
        self.holds(f"A new foo: {MADE} bar: 3. Transcript show: '!'", 0, classes=(one("A", methods=("foo: x bar: y",)),))
        self.holds(f"| b | b := [:x | 3]. b value: {MADE}. Transcript show: '!'", 0)

    def test_what_a_block_needs(self):
        self.holds(f"| b | b := A new blk: {MADE}. Transcript show: '!'. ^ b value")
        self.holds(f"| b | b := A new far: {MADE}. Transcript show: '!'. ^ b value value")
        self.holds(f"| b | b := (A new far: {MADE}) value. Transcript show: '!'. ^ b value")
        self.holds(f"| b | b := (A new n: {MADE}; yourself) me. Transcript show: '!'. ^ b value n")
        self.holds(f"| b | b := A new two: {MADE}. Transcript show: '!'. ^ b value")
        self.holds(f"| b | b := [:x | [3]] value: {MADE}. Transcript show: '!'. ^ b value")
        self.holds(f"| b | b := A new blk: {MADE}. b := nil. Transcript show: '!'", 0)
        self.holds(f"| a | a := A new. a n: (a blk: {MADE}). a n: 3. Transcript show: '!'", 0)
        self.holds(f"(A new blk: {MADE}) numArgs. Transcript show: '!'", 0)

    def test_values_are_gone_when_an_activation_ends(self):
        early = one("A", methods=(f"m: t | b | b := [3]. t foo: {MADE} bar: (t ifTrue: [^ b])",))
        self.holds("| b | b := A new m: true. Transcript show: '!'. ^ b value", 0, classes=(early,))

    def test_ensure_and_its_kin(self):
        self.holds(f"[Transcript show: '!'] ensure: (A new blk: {MADE})")
        self.holds(f"[Transcript show: '!'] ifCurtailed: (A new blk: {MADE})")
        self.holds(f"[Transcript show: '!'] on: Error do: (A new blk: {MADE})")
        self.holds(f"[Transcript show: '!'. 3] ensure: (A new blk: {MADE}). Transcript show: '?'", 0, text="?")
        self.holds(f"[{MADE}] ensure: [Transcript show: '!']")
        self.holds(f"[{MADE}] ifCurtailed: [4]. Transcript show: '!'", 0)
        block = "A new run: (A new two: 3)"
        self.holds(f"[{MADE}] ensure: [Transcript show: '!'. {block}]")

    def test_exceptions_and_ways_out(self):
        self.holds(f"[Error new signal: {MADE}] on: Error do: [Transcript show: '!']")
        self.holds(f"[Error new signal: {MADE}] on: Error do: [3]. Transcript show: '!'", 0)
        self.holds(f"[[Error signal] on: Error do: [:e | e return: {MADE}]] value. Transcript show: '!'", 0)
        self.holds(f"A new run: [[[Error signal] ensure: [Transcript show: '!']] on: Error do: [:e | e return: {MADE}]]")
        self.holds(f"[^ {MADE}] ensure: [Transcript show: '!']")
        self.holds(f"[[^ {MADE}] ensure: [Transcript show: '!']] ensure: [4]")
        self.holds(f"[[[Exception signal] on: Exception do: [:e | [e resume: {MADE}] ensure: [Transcript show: '!']]]] value value")
        self.holds("| e | e := [Error new signal: 3] on: Error do: [:f | f return: f]. Transcript show: '!'. ^ e", 0)
        self.holds(f"| e | e := [Error new signal: {MADE}] on: Error do: [:f | f return: f]. Transcript show: '!'. ^ e")

    def test_processes(self):
        self.holds(f"[:x | [x] fork] value: {MADE}. Transcript show: '!'")
        self.holds(f"(A new blk: {MADE}) fork. Transcript show: '!'. Processor yield")
        self.holds(f"(A new blk: {MADE}) fork. Processor yield. Transcript show: '!'", 0)
        self.holds(f"[[:x | Processor yield. x] value: {MADE}] fork. Processor yield. Transcript show: '!'")
        self.holds(f"[[:x | Semaphore new wait. x] value: {MADE}] fork. Processor yield. Transcript show: '!'")
        self.holds(f"| p | p := (A new blk: {MADE}) fork. p terminate. Transcript show: '!'", 0)
        self.holds(f"| p | p := [[:x | Semaphore new wait. x] value: {MADE}] fork. Processor yield. p terminate. Transcript show: '!'. ^ p", 0)

    def test_what_terminate_still_has_to_work(self):
        wait = "[[[Semaphore new wait] ensure: [Transcript show: '!']] ensure: (A new blk: %s)] fork" % MADE
        self.holds(f"| p | p := {wait}. Processor yield. p terminate. ^ 3")
        self.holds(f"| p | p := {wait}. Processor yield. p terminate. Transcript show: '?'. ^ 3", 0, text="?")
        world = until_shown("[[Semaphore new wait] ensure: [Transcript show: '!']] fork. Processor yield. A new. ^ (A new n: 3) printString", text="")
        self.assertEqual(world.garbage(), 0)

    def test_the_process_that_terminate_answers(self):
        classes = (one("A", fields=("p",), methods=("go p := [[Semaphore new wait] ensure: [Transcript show: '!']] fork. Processor yield", "p | q | q := p. p := nil. ^ q")),)
        world = until_shown("| a | a := A new. a go. ^ a p terminate", classes=classes)
        world.collect()
        self.assertIn("a Process", told(world))
        self.assertEqual(world.finish(5000)[:2], ("value", "a Process"))

    def test_semaphores(self):
        wait = "| s | s := Semaphore new. [s wait. s := nil. Transcript show: '!'. s] fork. Processor yield. %s"
        world = until_shown(wait % "s signal. s := nil. Transcript show: '?'. Processor yield", text="?")
        world.collect()
        self.assertIn("a Semaphore", told(world))
        world.step(20000)
        world.collect()
        self.assertNotIn("a Semaphore", told(world))
        world = until_shown("[Semaphore new wait] fork. Processor yield. Transcript show: '!'. Processor yield")
        world.collect()
        self.assertIn("a Semaphore", told(world))

    def test_processes_as_objects(self):
        world = until_shown("[Semaphore new wait] fork. [3] fork. Processor me. Processor yield. Transcript show: '!'. 3")
        self.assertEqual(told(world).count("a Process"), 3)
        world.collect()
        self.assertEqual(told(world).count("a Process"), 2)
        world.step(20000)
        world.collect()
        self.assertEqual(told(world).count("a Process"), 1)
        world = until_shown("| p | p := [3] fork. Processor yield. Transcript show: '!'. ^ p")
        world.collect()
        self.assertEqual(told(world).count("a Process"), 1)


class LastingTest(unittest.TestCase):
    def test_symbols_and_classes_stay(self):
        world = World(((one("A"),), "'zo' asSymbol. 3"))
        world.step(20000)
        self.assertEqual(world.collect(), 0)
        self.assertIn("#zo", told(world))
        self.assertEqual(told(world)[:3] + told(world)[55:57], ["nil", "true", "false", "A", "A class"])

    def test_literals(self):
        world = World(((A,), "'main'. ^ 3"))
        world.step(20000)
        self.assertEqual(world.collect(), 0)
        self.assertEqual([word for word in told(world) if word.startswith("'")], ["'lit'", "'!'", "'literal'", "'main'"])

    def test_literals_of_old_methods(self):
        world = until_shown("A new old: 3. A new n: 3. Transcript show: '?'")
        self.assertEqual(world.garbage(), 0)
        world.put_method("A", "old: x ^ 3")
        self.assertEqual(world.garbage(), 0)
        world.collect()
        self.assertIn("'literal'", told(world))
        while world.shown != "!?":
            world.step(1)
        self.assertEqual(world.collect(), 4)
        self.assertNotIn("'literal'", told(world))

    def test_literals_of_methods_with_blocks(self):
        classes = (one("A", methods=("m 'here'. ^ ['there']", "n ^ 'gone'")),)
        world = until_shown("| b | b := A new m. Transcript show: '!'. ^ b value", classes=classes)
        world.drop_method("A", "m")
        world.drop_method("A", "n")
        world.collect()
        self.assertEqual([word for word in told(world) if word in ("'here'", "'there'", "'gone'")], ["'here'", "'there'"])
        self.assertEqual(world.finish(5000)[:2], ("value", "'there'"))

    def test_the_value_of_a_run_that_has_ended(self):
        for main, many in ((f"^ {MADE}", 1), (f"^ #(1) copy at: 1 put: {MADE}; yourself", 1), (f"{MADE}. ^ 3", 0), (f"Error signal: {MADE}", 1),
                           (f"(Error new signal: {MADE}) foo", 1), (f"| a | a := {MADE}. Semaphore new wait", 1), (f"| a | a := {MADE}. ^ 3", 0)):
            world = World(((), main))
            world.step(20000)
            self.assertIs(world.ended, True)
            world.collect()
            self.assertEqual(told(world).count(KEPT), many, main)

    def test_what_the_last_code_took(self):
        down = (one("D", methods=("m: x ^ self m: x",)),)
        world = World((down, f"| k | [k := {MADE}. D new foo: k bar: (D new m: 3)] value"))
        world.step(20000)
        self.assertIs(world.ended, True)
        world.collect()
        self.assertEqual(told(world).count(KEPT), 1)
        garbage = World(((), "(Array new: 2) foo"))
        garbage.step(2)
        self.assertEqual(garbage.garbage(), 0)
        garbage.step(1)
        self.assertIs(garbage.ended, False)
        signal = World(((), "Exception new signal. Error new signal"))
        signal.step(20000)
        self.assertEqual(signal.collect(), 2)


class AnyMomentTest(unittest.TestCase):
    def test_collected_at_each_moment(self):
        chance = random.Random(8)
        programs = [(classes, main) for classes, main, _, _ in EXAMPLES] + all_programs()[3::6]
        programs += made_programs(ProgramMaker, 51, 40) + made_programs(WayMaker, 52, 40)
        for program in programs:
            outcome, many = machine(program, 5000), codes_done(program, 5000)
            world, always = World(program), World(program)
            for _ in range(min(many + 1, 60)):
                other = world.copy()
                garbage = world.garbage()
                self.assertEqual(other.collect(), garbage)
                self.assertEqual((other.garbage(), other.unlike(world)), (0, None))
                self.assertEqual(len(other.objects()), len(world.objects()) - garbage)
                self.assertEqual(other.finish(5000), outcome)
                always.collect()
                self.assertEqual(always.objects(), other.objects())
                count = chance.randint(1, 3)
                world.step(count)
                always.step(count)
            self.assertEqual(always.finish(5000), outcome)

    def test_order_is_kept(self):
        world = World(((), "| a b | 'x' reversed. a := 'y' reversed. 'z' reversed. b := 'w' reversed. ^ a , b"))
        world.step(20000)
        self.assertEqual(told(world)[59:], ["'x'", "'y'", "'z'", "'w'", "'yw'"])
        self.assertEqual(world.collect(), 4)
        self.assertEqual(world.objects()[55:], [(55, "'x'"), (56, "'y'"), (57, "'z'"), (58, "'w'"), (59, "'yw'")])


if __name__ == "__main__":
    unittest.main()
