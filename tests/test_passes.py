"""Points 36 to 38: what each pass changes and what it leaves, and runs with passed methods."""

import random
import unittest

import naive
from cases import all_programs
from runs import EXAMPLES
from test_judged import BLOCK, F, from_text
from test_machine import made
from test_making import codes_of

from imagetalk.errors import BadMade, NotSound
from imagetalk.judged import is_sound
from imagetalk.machine import machine, machine_with
from imagetalk.maker import made_of, make, make_main
from imagetalk.passes import folded, least_made, peeped, sizes_told, tailed, tested, threaded, trimmed
from imagetalk.passing import decide_at, fold_at, peep_at, rewritten
from imagetalk.programread import read_program

PASSES = (trimmed, threaded, folded, tested, peeped, tailed, least_made)


class PassesTest(unittest.TestCase):
    def passes(self, change, rows, **more):
        for before, after in rows:
            self.assertEqual(change(from_text(before, **more))[2][2], codes_of(after), before)

    def test_the_example(self):
        main = make_main(((), "^ 2 + 3 * 4 < 50 ifTrue: [1] ifFalse: [2]"))
        self.assertEqual(main[2][2], codes_of("int 2; int 3; send + 1; int 4; send * 1; int 50; send < 1; test yes 10 11; int 1; jump 11; int 2; answer"))
        self.assertEqual(folded(made=main)[2][2], codes_of("const true; test yes 4 5; int 1; jump 5; int 2; answer"))
        self.assertEqual(tested(made=folded(main))[2][2], codes_of("int 1; answer"))
        self.assertEqual(least_made(made=main)[2][2], codes_of("int 1; answer"))
        self.assertEqual(sizes_told(made=main), (12, 12, 12, 6, 12, 12, 12, 2))

    def test_trimmed(self):
        self.passes(trimmed, (
            ("self; answer", "self; answer"), ("self; answer; pop; answer", "self; answer"), ("jump 2; pop; self; answer", "jump 1; self; answer"),
            ("field 0; test yes 6 7; int 3; answer; jump 7; pop; const nil; answer", "field 0; test yes 4 5; int 3; answer; const nil; answer"),
            ("self; answer; jump 77; field 99; temp 9 9", "self; answer"), ("jump 0; self; answer", "jump 0"),
            ("self; pop; jump 0", "self; pop; jump 0"), ("jump 4; self; answer; pop; jump 1", "jump 3; self; answer; jump 1")))
        self.assertEqual(trimmed(make(F, "F", "max: k n < k ifTrue: [^ k]. ^ n"))[2][2],
                         codes_of("field 0; temp 0 0; send < 1; test yes 6 7; temp 0 0; answer; const nil; pop; field 0; answer"))

    def test_trimmed_blocks(self):
        one, two, three = [(0, 0, codes_of(f"int {k}; answer"), ()) for k in (1, 2, 3)]
        thing = from_text("block 2; pop; block 0; answer; block 1; answer", blocks=[one, two, three], variables=3, literals=[("str", "a")])
        self.assertEqual(trimmed(thing), ("m", (("str", "a"),), (0, 3, codes_of("block 1; pop; block 0; answer"), (one, three))))
        inner = (0, 0, codes_of("int 1; answer; block 0; answer"), (two,))
        self.assertEqual(trimmed(from_text("block 0; answer", blocks=[inner]))[2][3], (one,))
        self.assertEqual(trimmed(from_text("self; answer; block 0; answer", blocks=[inner]))[2], (0, 0, codes_of("self; answer"), ()))

    def test_threaded(self):
        self.passes(threaded, (
            ("self; answer", "self; answer"), ("jump 1; self; answer", "self; answer"), ("jump 2; self; jump 4; pop; self; answer", "self; answer"),
            ("self; jump 3; self; answer", "self; answer"),
            ("field 0; test yes 4 7; int 1; jump 7; jump 5; int 2; jump 7; answer", "field 0; test yes 4 5; int 1; jump 5; int 2; answer"),
            ("jump 0", "jump 0"), ("jump 1; jump 0", "jump 0"), ("jump 2; self; jump 4; self; jump 0", "jump 0"),
            ("self; pop; jump 3; jump 0", "self; pop; jump 0"), ("self; test yes 3 5; jump 0; int 2; answer; answer",) * 2,
            ("self; test yes 3 6; jump 5; jump 0; pop; jump 0; answer", "self; test yes 0 3; jump 0; answer")))

    def test_threaded_rings(self):
        self.passes(threaded, (("self; pop; jump 3; jump 4; jump 5; jump 3", "self; pop; jump 2"),
                               ("self; test yes 3 5; jump 4; jump 4; jump 3; answer", "self; test yes 3 4; jump 2; jump 3; answer"),
                               ("self; test yes 4 7; self; jump 7; jump 5; jump 6; jump 5; answer", "self; test yes 4 5; self; jump 5; jump 4; answer")))

    def test_long_ways_of_jumps(self):
        many = 3900
        rows = [("jump", place + 1) for place in range(many)]
        self.assertEqual(threaded(made(*rows, ("self",), ("answer",)))[2][2], codes_of("self; answer"))
        self.assertEqual(threaded(made(*rows, ("jump", 0)))[2][2], codes_of("jump 0"))

    def test_folded(self):
        for text, code in (("int 2; int 3; send + 1", "int 5"), ("int 2; int 3; send - 1", "int -1"), ("int 2; int 3; send * 1", "int 6"),
                           ("int -7; int 2; send // 1", "int -4"), ("int -7; int 2; send \\\\ 1", "int 1"), ("int 2; int 3; send < 1", "const true"),
                           ("int 2; int 3; send > 1", "const false"), ("int 2; int 2; send <= 1", "const true"), ("int 2; int 3; send >= 1", "const false"),
                           ("int 2; int 2; send = 1", "const true"), ("int 2; int 3; int 4; send * 1; send + 1", "int 14")):
            self.passes(folded, ((text + "; answer", code + "; answer"),))

    def test_what_folded_leaves(self):
        most = 10 ** 60 - 1
        for text in ("int 2; int 0; send // 1; answer", "int 2; int 0; send \\\\ 1; answer", "int 2; int 3; send == 1; answer", "int 2; int 3; send ~= 1; answer",
                     "int 2; int 3; super + 1; answer", "int 2; self; send + 1; answer", "self; int 2; send + 1; answer", "int 2; int 3; send max: 1; answer",
                     f"int {most}; int 1; send + 1; answer", f"int {-most}; int 1; send - 1; answer", "int 2; int 3; tail + 1"):
            self.passes(folded, ((text, text),))
        self.passes(folded, ((f"int {most - 1}; int 1; send + 1; answer", f"int {most}; answer"),
                             (f"int {most}; int 1; send + 1; int 1; send - 1; answer",) * 2,
                             (f"int 1; int {most}; int 1; send + 1; send + 1; answer",) * 2))

    def test_targets_in_what_is_folded(self):
        self.passes(folded, (
            ("self; jump 3; pop; int 2; int 3; send + 1; answer", "self; jump 3; pop; int 5; answer"),
            ("int 2; jump 3; int 2; int 3; send + 1; answer",) * 2,
            ("int 2; int 3; send + 1; answer; jump 1",) * 2,
            ("int 2; int 3; send + 1; answer; jump 2",) * 2,
            ("int 2; int 3; send + 1; answer; jump 0", "int 5; answer; jump 0"),
            ("int 2; int 3; send + 1; answer; jump 3", "int 5; answer; jump 1"),
            ("field 0; test yes 6 7; int 1; int 2; send + 1; jump 7; int 3; answer", "field 0; test yes 4 5; int 3; jump 5; int 3; answer")))

    def test_tested(self):
        self.passes(tested, (
            ("const true; test yes 4 5; int 1; jump 5; int 2; answer", "int 1; answer"), ("const false; test yes 4 5; int 1; jump 5; int 2; answer", "int 2; answer"),
            ("const false; test no 4 5; int 1; jump 5; int 2; answer", "int 1; answer"), ("const true; test no 4 5; int 1; jump 5; int 2; answer", "int 2; answer"),
            ("const nil; test yes 4 5; int 1; jump 5; int 2; answer",) * 2,
            ("const true; jump 2; test yes 5 6; int 1; jump 6; int 2; answer", "const true; test yes 4 5; int 1; jump 5; int 2; answer"),
            ("self; const true; test yes 4 5; answer; answer; pop; answer", "self; answer"), ("self; answer",) * 2,
            ("const false; const true; test yes 8 9; test yes 6 7; int 1; answer; int 2; answer; jump 8; jump 9", "int 2; answer")))

    def test_targets_in_what_is_tested(self):
        self.passes(tested, (
            ("const true; test yes 4 5; int 1; jump 5; int 2; answer; self; jump 1", "const true; test yes 4 5; int 1; jump 5; int 2; answer"),
            ("const true; test yes 5 6; int 1; pop; jump 0; const nil; answer", "int 1; pop; jump 0")))

    def test_a_target_that_goes_with_a_test_further_down(self):
        # The second test, which is left out, was the only one that had the first test as a target.
        text = "const true; test yes 8 9; const true; const true; test yes 1 6; answer; pop; answer; const nil; answer"
        self.passes(tested, ((text, "const true; answer"),))

    def test_peeped(self):
        for text in ("self", "const nil", "int 3", "lit 0", "class Object", "temp 0 0", "field 0"):
            self.passes(peeped, ((text + "; pop; self; answer", "self; answer"),), variables=1, literals=[("str", "a")])
        self.passes(peeped, (
            ("self; dup; pop; answer", "self; answer"), ("int 3; int 4; pop; pop; self; answer", "self; answer"),
            ("self; settemp 0 0; pop; temp 0 0; answer", "self; settemp 0 0; answer"), ("self; setfield 1; pop; field 1; answer", "self; setfield 1; answer"),
            ("self; settemp 0 0; settemp 0 0; settemp 0 0; answer", "self; settemp 0 0; answer"), ("self; setfield 0; setfield 0; answer", "self; setfield 0; answer"),
            ("self; settemp 0 0; pop; temp 0 0; pop; self; answer", "self; settemp 0 0; pop; self; answer"),
            ("self; settemp 0 0; int 4; pop; pop; temp 0 0; answer", "self; settemp 0 0; answer"), ("self; answer; int 3; pop", "self; answer")), variables=2)

    def test_what_peeped_leaves(self):
        self.passes(peeped, (
            ("self; settemp 0 0; pop; temp 0 1; answer",) * 2, ("self; settemp 0 0; settemp 0 1; answer",) * 2, ("self; settemp 0 0; pop; field 0; answer",) * 2,
            ("self; setfield 0; pop; field 1; answer",) * 2, ("self; send foo 0; pop; self; answer",) * 2, ("self; settemp 0 0; pop; self; answer",) * 2,
            ("field 0; test yes 4 5; int 1; jump 5; int 2; pop; self; answer",) * 2), variables=2)
        self.passes(peeped, (("block 0; pop; self; answer",) * 2,), blocks=[BLOCK])

    def test_targets_in_what_is_peeped(self):
        self.passes(peeped, (
            ("self; jump 3; self; pop; self; answer", "self; jump 2; pop; self; answer"),
            ("self; settemp 0 0; pop; temp 0 0; answer; self; jump 2", "self; settemp 0 0; pop; temp 0 0; answer"),
            ("self; settemp 0 0; pop; temp 0 0; answer; jump 3", "self; settemp 0 0; pop; temp 0 0; answer"),
            ("self; settemp 0 0; settemp 0 0; answer; self; jump 2", "self; settemp 0 0; settemp 0 0; answer"),
            ("self; settemp 0 0; pop; temp 0 0; answer; self; jump 1", "self; settemp 0 0; answer"),
            ("jump 1; self; pop; self; answer", "jump 1; self; answer"), ("self; pop; jump 0", "jump 0")), variables=1)

    def test_tailed(self):
        self.passes(tailed, (
            ("self; send foo 0; answer", "self; tail foo 0"), ("self; int 3; super + 1; answer", "self; int 3; tailsuper + 1"),
            ("self; send foo 0; pop; self; answer",) * 2, ("self; send foo 0; send bar 0; answer", "self; send foo 0; tail bar 0"),
            ("field 0; test yes 5 7; self; send foo 0; jump 7; self; send bar 0; answer", "field 0; test yes 5 7; self; send foo 0; jump 7; self; tail bar 0; answer"),
            ("field 0; test yes 5 7; self; send foo 0; answer; self; send bar 0; answer", "field 0; test yes 4 6; self; tail foo 0; self; tail bar 0; answer"),
            ("self; answer; self; send foo 0; answer", "self; answer")))

    def test_what_tailed_leaves(self):
        text = "block 0; pop; self; send foo 0; answer"
        block = (0, 0, codes_of("self; send foo 0; answer; answer"), ())
        thing = tailed(from_text(text + "; self", blocks=[block]))
        self.assertEqual(thing[2][2], codes_of(text))
        self.assertEqual(thing[2][3], ((0, 0, codes_of("self; send foo 0; answer"), ()),))
        thing = tailed(from_text("self; send foo 0; answer; block 0; answer", blocks=[block]))
        self.assertEqual(thing[2], (0, 0, codes_of("self; send foo 0; answer"), ()))

    def test_each_body_is_passed(self):
        block = (0, 0, codes_of("int 1; int 2; send + 1; int 3; pop; answer; self"), ())
        thing = from_text("block 0; answer", blocks=[(0, 0, codes_of("block 0; answer"), (block,))])
        inner = {change: change(thing)[2][3][0][3][0][2] for change in PASSES}
        self.assertEqual(inner[folded], codes_of("int 3; int 3; pop; answer; self"))
        self.assertEqual(inner[peeped], codes_of("int 1; int 2; send + 1; answer"))
        self.assertEqual(inner[least_made], codes_of("int 3; answer"))
        self.assertEqual(inner[trimmed], inner[tailed])
        self.assertEqual(sizes_told(thing), (11, 10, 10, 9, 10, 8, 10, 6))

    def test_least_made_goes_round(self):
        # What peeped leaves out brings integers together that folded then folds, and so on.
        thing = from_text("int 1; self; pop; int 2; send + 1; int 3; send < 1; test yes 10 11; self; jump 11; int 2; answer")
        self.assertEqual(least_made(thing)[2][2], codes_of("int 2; answer"))

    def test_wrong_arguments(self):
        for change in PASSES + (sizes_told,):
            for thing in (None, 7, "m", [], (), made(), made(("foo",)), made(("answer", 1))):
                with self.assertRaises(BadMade):
                    change(thing)
            for text in ("answer", "self", "temp 0 0; answer", "lit 0; answer", "block 0; answer", "self; return", "self; send foo 1; answer", "jump 5", "pop; jump 0"):
                with self.assertRaises(NotSound):
                    change(from_text(text))
            for text in ("field 99; answer", "class Foo; answer", "self; setfield 7; answer"):
                self.assertEqual(change(from_text(text)), from_text(text) if change is not sizes_told else (len(codes_of(text)),) * 8)
            self.assertTrue(change(from_text("self; answer", parameters=3, variables=3)))


class NaiveTest(unittest.TestCase):
    def test_the_leftmost_first(self):
        chance = random.Random(9)
        words = ("self", "pop", "pop", "dup", "answer", "jump {}", "test yes {} {}", "test no {} {}", "int 1", "int 2", "int 0", "send + 1", "send < 1", "send // 1",
                 "temp 0 0", "settemp 0 0", "settemp 0 0", "setfield 0", "field 0", "const true", "const false", "const true", "const nil", "send foo 0")
        changed = 0
        for _ in range(6000):
            many = chance.randint(3, 14)
            codes = codes_of("; ".join(chance.choice(words).format(chance.randrange(many), chance.randrange(many)) for _ in range(many)))
            for change, other in ((fold_at, naive.folding), (decide_at, naive.testing), (peep_at, naive.peeping)):
                found = rewritten(codes, change)
                self.assertEqual(found, naive.rewritten(codes, other), codes)
                changed += found != codes
        self.assertGreater(changed, 1000)


class RunsTest(unittest.TestCase):
    def test_runs_with_passed_methods(self):
        programs = all_programs() + [(classes, main) for classes, main, _, _ in EXAMPLES]
        for program in programs:
            if program[0]:
                self.check(program)

    def check(self, program):
        plain = machine(program, 5000)
        trees = read_program(program).methods
        for change in PASSES:
            places = [(owner, change(made_of(program, owner, selector))) for owner in trees for selector in trees[owner]]
            for name, thing in places:
                self.assertIs(is_sound(program, name, thing), True)
            other = machine_with(program, places, 5000)
            if plain[0] != "stopped" and other[0] != "stopped":
                self.assertEqual(other[:3], plain[:3], (change, program))
                self.assertLessEqual(other[3], plain[3])

    def test_what_chance_makes_stays_sound(self):
        chance = random.Random(3)
        words = ("self", "pop", "dup", "answer", "jump {}", "test yes {} {}", "test no {} {}", "int 3", "int 2", "send + 1", "send < 1", "temp 0 0", "settemp 0 0", "const true",
                 "const false", "settemp 0 1", "send foo 0")
        passed = 0
        for _ in range(3000):
            many = chance.randint(2, 12)
            rows = [chance.choice(words).format(chance.randint(0, many - 1), chance.randint(0, many - 1)) for _ in range(many)]
            thing = from_text("; ".join(rows), variables=2)
            if not is_sound(F, "F", thing):
                continue
            passed += 1
            for change in PASSES:
                other = change(thing)
                self.assertIs(is_sound(F, "F", other), True, (change, rows))
                if change is not folded:
                    self.assertEqual(trimmed(other), other, (change, rows))
                if change in (trimmed, threaded, folded, least_made):
                    self.assertEqual(change(other), other, (change, rows))
                self.check_run(thing, other)
        self.assertGreater(passed, 60)

    def check_run(self, thing, other):
        program = ((("F", "Object", ("n",), (), ("m ^ 1", "foo ^ 4"), ()),), "^ [F new m] on: Error do: [:e | e class]")
        one = machine_with(program, [("F", thing)], 300)
        two = machine_with(program, [("F", other)], 300)
        if one[0] != "stopped" and two[0] != "stopped":
            self.assertEqual(one[:3], two[:3], (thing, other))
        self.assertEqual(one[0] == "value" and two[0] == "error", False)


if __name__ == "__main__":
    unittest.main()
