"""Point 22: each bound at it and one beyond, which is told first, and the kinds of outcomes; points 23 and 24."""

import unittest

from runs import EXAMPLES
from samples import NO_PROGRAMS

from imagetalk.errors import BadCount, BadProgram, BadSource, TooMany
from imagetalk.walk import answers, walk, walk_trace

DOWN = ("Down", "Object", (), (), ("to: n n = 0 ifTrue: [^ 0]. ^ self to: n - 1", "do: b ^ b value", "foo: a bar: c ^ a"), ())


def fill(many):
    """Statements that make so many objects, by few sends and the variable k."""
    rounds, rest = divmod(many, 20)
    return f"k := 0. [k < {rounds}] whileTrue: [k := k + 1. {'[3]. ' * 20}]. " + "[3]. " * rest


def run(main, *classes, sends=5000):
    return walk((classes, main), sends)


class BoundsTest(unittest.TestCase):
    def test_sends(self):
        for classes, main, outcome, trace in EXAMPLES:
            self.assertEqual(walk((classes, main), len(trace)), outcome)
            for sends in range(len(trace)):
                stopped = walk((classes, main), sends)
                self.assertEqual(stopped[:2] + stopped[3:], ("stopped", "sends", sends))
                self.assertEqual(walk_trace((classes, main), sends), trace[:sends])
                self.assertTrue(outcome[2].startswith(stopped[2]))

    def test_no_sends(self):
        self.assertEqual(run("^ 3", sends=0), ("value", "3", "", 0))
        self.assertEqual(run("^ 3 + 4", sends=0), ("stopped", "sends", "", 0))
        self.assertEqual(run("true ifTrue: [^ 3]", sends=0), ("value", "3", "", 0))

    def test_five_thousand_sends(self):
        main = "| n | n := 0. [n < {}] whileTrue: [n := n + 1]. ^ n"
        self.assertEqual(run(main.format(2499)), ("value", "2499", "", 4999))
        self.assertEqual(run(main.format(2499) + " + 0"), ("value", "2499", "", 5000))
        self.assertEqual(run(main.format(2500)), ("stopped", "sends", "", 5000))

    def test_depth(self):
        self.assertEqual(run("^ Down new to: 98", DOWN)[:2], ("value", "0"))
        stopped = run("^ Down new to: 99", DOWN)
        self.assertEqual(stopped, ("stopped", "depth", "", 2 + 3 * 99))
        trace = walk_trace(((DOWN,), "^ Down new to: 99"), 5000)
        self.assertEqual(trace[-1], (100, "Down", "to:"))
        self.assertEqual(len(trace), stopped[3])

    def test_depth_of_blocks_and_guards(self):
        main = "| b | b := [:n | n > 0 ifTrue: [b value: n - 1]]. b value: {}"
        self.assertEqual(run(main.format(98))[0], "value")
        self.assertEqual(run(main.format(99))[:2], ("stopped", "depth"))
        main = "| b | b := [:n | n > 0 ifTrue: [[b value: n - 1] ensure: [Transcript show: n]] ifFalse: [[3] {}]]. b value: {}"
        self.assertEqual(run(main.format("value", 32))[:2], ("value", "nil"))
        self.assertEqual(run(main.format("ensure: []", 32))[:2], ("value", "nil"))
        self.assertEqual(run(main.format("value", 33))[:2], ("stopped", "depth"))
        for depth, kind in ((97, "value"), (98, "stopped"), (99, "stopped")):
            deep = "| b | b := [:n | n > 0 ifTrue: [b value: n - 1] ifFalse: [[3] ensure: [4]]]. b value: {}"
            self.assertEqual(run(deep.format(depth - 1))[0], kind, depth)

    def test_depth_of_handlers(self):
        main = ("| b | b := [:n | n > 0 ifTrue: [b value: n - 1] ifFalse: [Exception new signal]]. "
                "[b value: {}] on: Exception do: [:e | 3]")
        self.assertEqual(run(main.format(95))[0], "value")
        self.assertEqual(run(main.format(96))[:2], ("stopped", "depth"))

    def test_depth_is_of_one_process(self):
        main = "[:n | Down new to: n. Transcript show: 'x'] valueWithArguments: #(97). [Down new to: 98. Transcript show: 'y'] fork. Processor yield"
        self.assertEqual(run(main, DOWN)[:3], ("value", "nil", "xy"))

    def test_objects(self):
        for many, kind in ((1999, "value"), (2000, "value"), (2001, "stopped")):
            self.assertEqual(run("| k | " + fill(many) + "^ #done")[0], kind)
        self.assertEqual(run("| k | " + fill(1999) + "^ Object new")[:2], ("value", "an Object"))
        self.assertEqual(run("| k | " + fill(2000) + "^ Object new")[:2], ("stopped", "objects"))

    def test_what_counts_as_made(self):
        for made, text in ((1, "[3]"), (1, "3 printString"), (1, "'a' , 'b'"), (1, "'a' at: 1"), (1, "'a' reversed"), (1, "Object name"), (1, "#a asString"),
                           (1, "'a' copy"), (1, "#(1) copy"), (1, "Error new"), (1, "Array new: 3"), (1, "String new"), (1, "Processor me"), (2, "[] fork"),
                           (1, "'zz' asSymbol"), (0, "'a' asString"), (0, "#a asSymbol"), (0, "'a' asSymbol"), (0, "'a' size"), (0, "#a copy"), (0, "3 + 4"),
                           (0, "#(1 2 (3)) at: 3"), (0, "Object class"), (0, "true ifTrue: [3]"), (1, "[3] value"), (2, "[3] ensure: [4]"), (1, "Semaphore new"),
                           (2, "Error new copy"), (2, "[] == []"), (1, "Processor me. Processor me"), (0, "#a == #a"), (1, "3 perform: 'even' asSymbol"),
                           (0, "3 perform: #even"), (3, "[1 // 0] on: ZeroDivide do: [:e]"), (0, "#(1 2) at: 1 put: 4"), (0, "'a' = 'b'")):
            main = "| k | k := #a. {}" + text + ". Transcript show: 'x'"
            self.assertEqual(run(main.format(fill(2000 - made)))[:3], ("value", "nil", "x"), text)
            if made:
                self.assertEqual(run(main.format(fill(2001 - made)))[:3], ("stopped", "objects", ""), text)

    def test_made_by_what_is_not_understood(self):
        for left, last in ((0, "foo:"), (1, "foo:"), (2, "foo:"), (3, "new")):
            program = ((), "| k | " + fill(2000 - left) + "3 foo: 4")
            self.assertEqual(walk(program, 5000)[:2], ("stopped", "objects"))
            self.assertEqual(walk_trace(program, 5000)[-1][2], last, left)
        for left, last in ((1, "foo:"), (2, "new"), (3, "signal")):
            program = ((), "| k | #foo: == nil. " + fill(2000 - left) + "3 foo: 4")
            self.assertEqual(walk_trace(program, 5000)[-1][2], last, left)

    def test_signs(self):
        main = "200 timesRepeat: [Transcript show: 'abcdefghij']. Transcript show: '{}'"
        self.assertEqual(run(main.format(""))[0::2], ("value", "abcdefghij" * 200))
        self.assertEqual(run(main.format("k"))[:3], ("stopped", "signs", "abcdefghij" * 200))
        main = "199 timesRepeat: [Transcript show: 'abcdefghij']. Transcript show: 'abcdefg'. Transcript show: 'wxyz'"
        self.assertEqual(run(main)[:3], ("stopped", "signs", "abcdefghij" * 199 + "abcdefg"))

    def test_length(self):
        main = "| s | s := '1234567890'. s := s , s , s , s , s. s := s , s , s , s. s := s , s , s , s , s , s , s , s , s , s. {}"
        self.assertEqual(run(main.format("^ s size"))[:2], ("value", "2000"))
        self.assertEqual(run(main.format("^ (s , '') size"))[:2], ("value", "2000"))
        self.assertEqual(run(main.format("s , 'a'"))[:2], ("stopped", "length"))
        self.assertEqual(run(main.format("s , s"))[:2], ("stopped", "length"))
        self.assertEqual(run(main.format("^ s printString size"))[:2], ("value", "2000"))

    def test_digits(self):
        main = "| n | n := 1. {} timesRepeat: [n := n * 10]. {}"
        self.assertEqual(run(main.format(199, "^ n"))[1], "1" + "0" * 199)
        self.assertEqual(run(main.format(200, "^ n"))[:2], ("stopped", "digits"))
        nines = "9" * 200
        self.assertEqual(run(main.format(199, "^ n - 1 * 10 + 9"))[1], nines)
        self.assertEqual(run(main.format(199, "n - 1 * 10 + 9 + 1"))[:2], ("stopped", "digits"))
        self.assertEqual(run(main.format(199, "^ 0 - (n - 1 * 10 + 9)"))[1], "-" + nines)
        self.assertEqual(run(main.format(199, "0 - (n - 1 * 10 + 9) - 1"))[:2], ("stopped", "digits"))
        self.assertEqual(run(main.format(199, "n * n"))[:2], ("stopped", "digits"))

    def test_processes(self):
        self.assertEqual(run("7 timesRepeat: [[Transcript show: 'p'] fork]. Processor yield")[:3], ("value", "nil", "p" * 7))
        self.assertEqual(run("8 timesRepeat: [[Transcript show: 'p'] fork. Processor yield]")[:3], ("stopped", "processes", "p" * 7))

    def test_rounds(self):
        self.assertEqual(run("[true] whileTrue: []"), ("stopped", "rounds", "", 0))
        main = "| a | a := #(1). {} timesRepeat: []. {} timesRepeat: []. ^ 3"
        self.assertEqual(run(main.format(800, 800))[:2], ("value", "3"))
        program = "| b | [[b isNil] whileTrue: [b := 1]. false] whileTrue: []. [b := b + 1. b < 2000] whileTrue: []. [true] whileTrue: []"
        self.assertEqual(run(program)[:2], ("stopped", "rounds"))

    def test_rounds_exactly(self):
        # A loop goes round without a send as long as what is judged is an item of a row of variables.
        turns = "[{}] whileTrue: [Transcript == nil]. "
        self.assertEqual(run(turns.format("true")), ("stopped", "sends", "", 5000))
        double = "[a] whileTrue: [b := true. [b] whileTrue: [b := false]. n := n + 1. n == 1250 ifTrue: [a := false]]. "
        main = "| a b n | a := true. n := 0. " + double + "{}^ n"
        self.assertEqual(run(main.format("")), ("value", "1250", "", 2500))
        more = "a := true. n := 0. " + double
        self.assertEqual(run(main.format(more)), ("value", "1250", "", 5000))
        once = "b := true. [b] whileTrue: [b := false]. "
        self.assertEqual(run(main.format(more + once)), ("stopped", "rounds", "", 5000))

    def test_what_is_told_first(self):
        text = "| k s | s := '1234567890'. s := s , s , s , s , s. s := s , s , s , s. s := s , s , s , s , s , s , s , s , s , s. "
        outcome = run(text + fill(1984) + "s , s")
        self.assertEqual(outcome[:2], ("stopped", "length"))
        self.assertEqual(run(text + fill(1984) + "s , s", sends=outcome[3] - 1)[:2], ("stopped", "sends"))
        self.assertEqual(run(text + fill(1984) + "'a' , 'a'")[:2], ("stopped", "objects"))
        forks = "| k b | b := []. 7 timesRepeat: [b fork]. " + fill(2000 - 9) + "b fork"
        self.assertEqual(run(forks)[:2], ("stopped", "processes"))
        deep = "| b c | c := []. b := [:k | k = 0 ifTrue: [c value] ifFalse: [b value: k - 1]]. b value: {}"
        outcome = run(deep.format(98))
        self.assertEqual(outcome[:2], ("stopped", "depth"))
        self.assertEqual(run(deep.format(98), sends=outcome[3])[:2], ("stopped", "depth"))
        self.assertEqual(run(deep.format(98), sends=outcome[3] - 1)[:2], ("stopped", "sends"))
        self.assertEqual(run(deep.format(97))[:2], ("value", "nil"))

    def test_nothing_is_worked_when_a_run_ends(self):
        for main in ("[[true] whileTrue: []] ensure: [Transcript show: 'e']", "[1 foo] ensure: [Transcript show: 'e']",
                     "[Semaphore new wait] ensure: [Transcript show: 'e']", "[[true] whileTrue: []] ifCurtailed: [Transcript show: 'e']"):
            self.assertEqual(run(main)[2], "", main)

    def test_kinds_of_outcomes(self):
        for main, outcome in (("^ 3", ("value", "3", "", 0)), ("1 foo", ("error", "NotUnderstood", "", 5)), ("Semaphore new wait", ("stuck", "", "", 2)),
                              ("Transcript show: 'a'. [true] whileTrue: []", ("stopped", "rounds", "a", 1)),
                              ("Error signal: 'x y'", ("error", "Error: x y", "", 4))):
            self.assertEqual(run(main), outcome)


class WalkTest(unittest.TestCase):
    def test_in_place_by_name(self):
        program = ((), "^ true ifTrue: [3]")
        self.assertEqual(walk(program, 5000), ("value", "3", "", 0))
        self.assertEqual(walk(program, sends=5000, in_place=True), ("value", "3", "", 0))
        self.assertEqual(walk(program=program, sends=5000, in_place=False), ("value", "3", "", 2))
        self.assertEqual(walk_trace(program, 5000, in_place=False), [(1, "True", "ifTrue:"), (2, "Block", "value")])
        self.assertEqual(walk_trace(program=program, sends=5000), [])
        for function in (walk, walk_trace):
            with self.assertRaises(TypeError):
                function(program, 5000, True)

    def test_the_kernel_is_always_made_in_place(self):
        trace = walk_trace(((), "2 timesRepeat: []. ^ -3 abs"), 5000, in_place=False)
        self.assertNotIn("ifTrue:ifFalse:", [row[2] for row in trace])
        self.assertNotIn("whileTrue:", [row[2] for row in trace])

    def test_wrong_arguments(self):
        for thing in NO_PROGRAMS:
            for function in (walk, walk_trace):
                with self.assertRaises(BadProgram):
                    function(thing, None)
            with self.assertRaises(BadProgram):
                answers(thing, None, None)
        for sends in (True, False, None, -1, 5001, "3", (), [3], 10 ** 30):
            for function in (walk, walk_trace):
                with self.assertRaises(BadCount):
                    function(((), ""), sends)
            with self.assertRaises(BadCount):
                answers(((), ""), "", sends)

    def test_new_lists(self):
        program = ((), "3 + 4")
        one = walk_trace(program, 5)
        one.append(7)
        self.assertEqual(walk_trace(program, 5), [(1, "Integer", "+")])
        self.assertIsInstance(walk(program, 5), tuple)

    def test_equal_calls(self):
        for classes, main, outcome, trace in EXAMPLES:
            for _ in range(2):
                self.assertEqual(walk((classes, main), 5000), outcome)


class AnswersTest(unittest.TestCase):
    def test_answers(self):
        program = EXAMPLES[0][:2]
        self.assertEqual(answers(program, "^ (Box of: 4) n", 5000), ("value", "4", "", 4))
        self.assertEqual(answers(program, "", 0), ("value", "nil", "", 0))
        self.assertEqual(answers(program=program, source="^ 3 + 4", sends=0), ("stopped", "sends", "", 0))
        self.assertEqual(answers(program, "^ true ifTrue: [3]", 0), ("value", "3", "", 0))
        self.assertEqual(answers(program, "^ (#(a) at: 1) == 'a' asSymbol", 9)[1], "true")

    def test_errors_and_their_order(self):
        program = EXAMPLES[0][:2]
        for source, place in (("^ )", 2), (None, -1), (7, -1), ("3 'a", 2), ("| self |", 2)):
            with self.assertRaises(BadSource) as caught:
                answers(program, source, None)
            self.assertEqual(caught.exception.place, place)
        for source in ("^ foo", "Foo new", "n := 3", "| n | ^ x", "^ foo" + " foo" * 45):
            with self.assertRaises(BadCount):
                answers(program, source, True)
            with self.assertRaises(BadProgram) as caught:
                answers(program, source, 7)
            self.assertEqual(caught.exception.where, ("main",))
        deep = "^ 3" + " foo" * 45
        with self.assertRaises(TooMany):
            answers(program, deep, 7)
        with self.assertRaises(BadCount):
            answers(program, deep, 5001)
        self.assertEqual(answers(program, "| n | ^ n", 0)[1], "nil")


if __name__ == "__main__":
    unittest.main()
