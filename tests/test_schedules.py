"""Points 53 to 57: runs by schedules, all ends, turn papers, what processes touch, and processes that are apart."""

import random
import unittest

from cases import TURNS, all_programs
from runs import EXAMPLES
from samples import BOX, NO_PROGRAMS, one
from test_oracle import made_programs
from programmaker import ProgramMaker, WayMaker

from imagetalk.errors import BadCount, BadProgram, BadSchedule, TooMany
from imagetalk.machine import machine
from imagetalk.schedules import all_ends, apart, is_orderless, schedule_for, stuck_by, touches, turn_paper, turn_paper_holds
from imagetalk.turns import ready_at, run_by

ENDED = ((), "| s p | s := Semaphore new. p := [[s wait] ensure: [Transcript show: 'x']] fork. Processor yield. p terminate. Transcript show: 'y'. ^ p")
BOTH = ((), "| s | s := Semaphore new. [Transcript show: 'a'. s signal] fork. [Transcript show: 'b'. s signal] fork. s wait. s wait. Transcript show: 'c'")
STUCK = ((), BOTH[1].replace(". s signal] fork. s wait", "] fork. s wait"))
NO_SCHEDULES = (None, True, 7, "", (), (0,), {}, [True], [None], ["0"], [-1], [8], [0, 9], [0] * 61, [[0]], [0, (1,)])
FUNCTIONS = (all_ends, is_orderless, stuck_by, turn_paper, apart)


def yielding(*many):
    """main waits for processes that yield so many times, and show their letters at each."""
    rows = [f"[{k} timesRepeat: [Transcript show: '{letter}'. Processor yield]. s signal] fork" for k, letter in zip(many, "abcdefg")]
    return ((), "| s | s := Semaphore new. " + ". ".join(rows) + ". s wait" * len(many))


class ForkMaker:
    """Programs with processes that share variables, objects and a Semaphore."""

    def __init__(self, chance):
        self.chance, self.names = chance, 0

    def statement(self, depth):
        self.names += 1
        letter, name = "abcdefghij"[self.names % 10], f"e{self.names}"
        forms = [f"Transcript show: '{letter}'", "Processor yield", "Processor yield", "s signal", "s wait", "x := x + 1", "p terminate", "p := Processor me",
                 "a at: 1 put: x", "Transcript show: x", "x := a at: 1", "q become: a", "a at: 2 put: #(1)", "3 yourself"]
        if depth > 0:
            forms += [f"[{self.body(depth - 1)}] fork"] * 3
            forms += [f"p := [{self.body(depth - 1)}] fork", f"[{self.body(depth - 1)}] ensure: [{self.body(depth - 1)}]",
                      f"[{self.body(depth - 1)}] on: Error do: [:{name} | {self.body(depth - 1)}]", f"2 timesRepeat: [{self.body(depth - 1)}]"]
        return self.chance.choice(forms)

    def body(self, depth):
        return ". ".join(self.statement(depth) for _ in range(self.chance.randint(1, 3)))

    def program(self):
        start = f"p := [{self.body(1)}] fork. [{self.body(1)}] fork. " if self.chance.random() < 0.7 else ""
        rows = ". ".join(self.statement(2) for _ in range(self.chance.randint(1, 3)))
        return ((), f"| s p q x a | x := 0. s := Semaphore new. a := #(0 0) copy. q := Array new: 2. {start}{rows}. ^ x")


class RunByTest(unittest.TestCase):
    def test_the_examples(self):
        self.assertEqual(run_by(program=ENDED, schedule=[], sends=5000), ("value", "a Process", "xy", 8))
        self.assertEqual(run_by(ENDED, [1], 5000), ("value", "a Process", "y", 5))
        self.assertEqual([ready_at(ENDED, [], turn) for turn in range(4)], [[1, 0], [0], None, None])
        self.assertEqual([ready_at(program=ENDED, schedule=[1], turn=turn) for turn in (0, 1)], [[1, 0], None])
        self.assertEqual((run_by(BOTH, [], 5000)[:3], run_by(BOTH, [1], 5000)[:3]), (("value", "nil", "abc"), ("value", "nil", "bac")))
        self.assertEqual(ready_at(BOTH, [], 0), [1, 2])

    def test_the_first_schedule(self):
        for program in [row[:2] for row in TURNS] + [(classes, main) for classes, main, _, _ in EXAMPLES] + all_programs()[::20]:
            self.assertEqual(run_by(program, [], 5000), machine(program, 5000))
            for sends in (0, 3, 7):
                self.assertEqual(run_by(program, [], sends), machine(program, sends))
            many = 0
            while many < 20 and ready_at(program, [], many) is not None:
                many += 1
                self.assertEqual(run_by(program, [0] * many, 5000), machine(program, 5000))

    def test_places(self):
        program = yielding(1, 1, 1)
        self.assertEqual(ready_at(program, [], 0), [1, 2, 3])
        self.assertEqual(run_by(program, [2, 1, 0], 5000)[2], "cba")
        self.assertEqual(run_by(program, [2, 0, 0], 5000)[2], "cab")
        self.assertEqual(ready_at(program, [2], 1), [1, 2, 3])
        self.assertEqual(ready_at(program, [1], 1), [1, 3, 2])
        self.assertEqual(ready_at(program, [1, 2], 2), [1, 3, 0])

    def test_places_that_are_not_there(self):
        program = yielding(1, 1)
        for schedule, turn in (([2], 0), ([7], 0), ([0, 2], 1), ([1, 0, 2, 7], 2)):
            with self.assertRaises(BadSchedule) as caught:
                run_by(program, schedule, 5000)
            self.assertEqual(caught.exception.place, turn)
            with self.assertRaises(BadSchedule) as caught:
                ready_at(program, schedule, turn + 1)
            self.assertEqual(caught.exception.place, turn)
            self.assertIsNotNone(ready_at(program, schedule, turn))
            self.assertEqual(ready_at(program, schedule, turn), ready_at(program, schedule[:turn], turn))
        self.assertEqual(run_by(((), "^ 3"), [7, 7], 5000), ("value", "3", "", 0))
        self.assertEqual(run_by(ENDED, [1, 7, 7], 5000), ("value", "a Process", "y", 5))
        self.assertEqual(run_by(ENDED, [0, 1], 3), ("stopped", "sends", "", 3))
        self.assertEqual(run_by(ENDED, [0] * 60, 5000), machine(ENDED, 5000))

    def test_one_that_yields_alone(self):
        program = ((), "Processor yield. Transcript show: 'a'. Processor yield. ^ 3")
        self.assertEqual([ready_at(program, [], turn) for turn in range(3)], [[0], [0], None])
        with self.assertRaises(BadSchedule) as caught:
            run_by(program, [0, 1], 5000)
        self.assertEqual(caught.exception.place, 1)

    def test_turns_of_each_kind(self):
        program = ((), "| s | s := Semaphore new. [3] fork. [1 // 0] fork. [s wait. Transcript show: 'w'] fork. [Processor me terminate] fork. Processor yield. s signal. "
                       "Processor yield. ^ 5")
        rows = [ready_at(program, [], turn) for turn in range(6)]
        self.assertEqual(rows, [[1, 2, 3, 4, 0], [2, 3, 4, 0], [3, 4, 0], [4, 0], [0], [3, 0]])
        self.assertEqual([ready_at(program, [], turn) for turn in (6, 7, 10 ** 30)], [[0], None, None])

    def test_runs_that_are_stopped_or_stuck(self):
        self.assertIsNone(ready_at(((), "Semaphore new wait"), [], 0))
        self.assertIsNone(ready_at(((), "[true] whileTrue: [3]. Processor yield"), [], 0))
        self.assertEqual(ready_at(((), "[true] whileTrue: [Processor yield]"), [], 4000), [0])
        self.assertIsNone(ready_at(((), "[true] whileTrue: [Processor yield]"), [], 5000))

    def test_errors(self):
        for thing in NO_PROGRAMS:
            with self.assertRaises(BadProgram):
                run_by(thing, None, None)
            with self.assertRaises(BadProgram):
                ready_at(thing, None, None)
        for schedule in NO_SCHEDULES:
            for call in (lambda: run_by(BOX, schedule, None), lambda: ready_at(BOX, schedule, None), lambda: touches(BOX, schedule)):
                with self.assertRaises(BadSchedule) as caught:
                    call()
                self.assertEqual(caught.exception.place, -1)
        for count in (None, True, -1, "3", []):
            with self.assertRaises(BadCount):
                run_by(BOX, [], count)
            with self.assertRaises(BadCount):
                ready_at(BOX, [0], count)
        with self.assertRaises(BadCount):
            run_by(BOX, [7], 5001)
        schedule = [0, 0]
        run_by(BOTH, schedule, 5000)
        self.assertEqual(schedule, [0, 0])


class AllEndsTest(unittest.TestCase):
    def test_the_examples(self):
        ends = [("value", "nil", "abc"), ("value", "nil", "bac")]
        self.assertEqual(all_ends(program=BOTH), ends)
        self.assertEqual([schedule_for(program=BOTH, end=end) for end in ends], [[], [1]])
        self.assertEqual((is_orderless(program=BOTH), stuck_by(program=BOTH)), (False, None))
        self.assertEqual(all_ends(STUCK), [("stuck", "", "ab"), ("stuck", "", "ba")])
        self.assertEqual((stuck_by(STUCK), schedule_for(STUCK, ("stuck", "", "ba"))), ([], [1]))
        self.assertEqual(all_ends(ENDED), [("value", "a Process", "xy"), ("value", "a Process", "y")])

    def test_runs_without_a_turn(self):
        for main, end in (("^ 3", ("value", "3", "")), ("1 foo", ("error", "NotUnderstood", "")), ("Semaphore new wait", ("stuck", "", "")),
                          ("| a | a := 7. [true] whileTrue: [a := a * a]", ("stopped", "digits", "")), ("[] fork. ^ 3", ("value", "3", ""))):
            program = ((), main)
            self.assertEqual((all_ends(program), is_orderless(program), schedule_for(program, end), turn_paper(program)), ([end], True, [], []))
            self.assertEqual(stuck_by(program), [] if end[0] == "stuck" else None)
            self.assertIsNone(schedule_for(program, ("value", "4", "")))

    def test_what_is_no_end(self):
        for thing in (None, True, 7, "", (), [], ["value", "nil", "abc"], ("value", "nil", "abc", 8), ("value", "nil"), ("value", "nil", "zzz"), {}, ("value", None, "abc")):
            self.assertIsNone(schedule_for(BOTH, thing))

    def test_schedules_behind_which_the_first_goes_on(self):
        program = yielding(1, 1, 1)
        ends = all_ends(program)
        self.assertEqual([end[2] for end in ends], ["abc", "acb", "bac", "bca", "cab", "cba"])
        self.assertEqual([schedule_for(program, end) for end in ends], [[], [0, 1], [1], [1, 1], [2], [2, 1]])

    def test_stopped_by_other_bounds(self):
        loop = "[true] whileTrue: [Transcript show: 'abcdefghij']"
        program = ((), f"[{loop}] fork. [Transcript show: 'x'] fork. Processor yield. ^ 3")
        kinds = [(end[:2], len(end[2])) for end in all_ends(program)]
        self.assertEqual(kinds, [(("stopped", "signs"), 2000), (("stopped", "signs"), 1991), (("value", "3"), 0), (("value", "3"), 1)])

    def test_no_schedule_of_at_most_sixty(self):
        """main has to go on first each time, sixty times and more often."""
        stuck = ((), "| k | k := 0. [k := 61. Semaphore new wait] fork. [k < 60] whileTrue: [k := k + 1. Processor yield]. k = 60 ifTrue: [Semaphore new wait]. ^ k")
        self.assertEqual(stuck_by(stuck), [1] * 60)
        self.assertEqual(all_ends(stuck), [("stuck", "", ""), ("value", "61", "")])
        self.assertEqual([schedule_for(stuck, end) for end in all_ends(stuck)], [[1] * 60, []])
        longer = ((), stuck[1].replace("60", "62").replace("61", "63"))
        self.assertIn(("stuck", "", ""), all_ends(longer))
        self.assertIsNone(stuck_by(longer))
        self.assertIsNone(schedule_for(longer, ("stuck", "", "")))
        self.assertIs(is_orderless(longer), False)
        main = "| k | k := 0. [k := 99] fork. [k < %d] whileTrue: [k := k + 1. Processor yield]. ^ k"
        self.assertEqual(schedule_for(((), main % 60), ("value", "60", "")), [1] * 60)
        self.assertIsNone(schedule_for(((), main % 61), ("value", "61", "")))

    def test_too_many_standings(self):
        for program in (yielding(6, 6, 6), ((), "[Processor yield. Processor yield] fork. " * 7 + "Semaphore new wait")):
            for function in FUNCTIONS:
                with self.assertRaises(TooMany):
                    function(program)
            for thing in (None, ("value", "nil", "")):
                with self.assertRaises(TooMany):
                    schedule_for(program, thing)
                with self.assertRaises(TooMany):
                    turn_paper_holds(program, thing)

    def test_three_hundred_standings(self):
        """A row of turns, each one with one process: so many standings, and one more."""
        for many in (300, 301):
            program = ((), "| k | k := 0. [k < %d] whileTrue: [k := k + 1. Processor yield]" % many)
            if many == 300:
                self.assertEqual(len(turn_paper(program)), 300)
                self.assertEqual(turn_paper(program)[-2:], [(298, (299,)), (299, (None,))])
            else:
                with self.assertRaises(TooMany):
                    all_ends(program)

    def test_a_standing_that_comes_again(self):
        for main in ("[true] whileTrue: [Processor yield]", "[[true] whileTrue: [Processor yield]] fork. Processor yield. ^ 3",
                     "[[true] whileTrue: [Processor yield. Transcript show: '']] fork. Processor yield. ^ 3"):
            for function in FUNCTIONS:
                with self.assertRaises(TooMany):
                    function(((), main))
        self.assertEqual(len(all_ends(((), "[[true] whileTrue: [Processor yield. Transcript show: 'abcdefghijklmnopqrstuvwxyzabcdefghijklmnop']] fork. Processor yield. ^ 3"))), 49)

    def test_runs_that_are_too_long(self):
        long = "[true] whileTrue: [%s]"
        for body in ("3", "3 yourself"):
            for main in (long % body, "Processor yield. " + long % body, f"[{long % body}] fork. Processor yield. ^ 3", f"[{long % body}] fork. [3] fork. Processor yield. ^ 3"):
                for function in FUNCTIONS:
                    with self.assertRaises(TooMany):
                        function(((), main))
                with self.assertRaises(TooMany):
                    turn_paper_holds(((), main), [])
        self.assertEqual(all_ends(((), f"[{long % '3'}] fork. ^ 3")), [("value", "3", "")])

    def test_against_all_schedules(self):
        """All schedules worked one by one."""
        finite = 0
        for program in made_programs(ForkMaker, 91, 120) + [BOTH, STUCK, ENDED, yielding(2, 1), yielding(1, 1, 1)]:
            first, level, many = {}, [[]], 0
            while level and many < 400:
                following = []
                for schedule in level:
                    many += 1
                    first.setdefault(run_by(program, schedule, 5000)[:3], schedule)
                    ready = ready_at(program, schedule, len(schedule))
                    following += [schedule + [place] for place in range(len(ready or []))]
                level = following
            if level:
                continue
            finite += 1
            self.assertEqual(all_ends(program), sorted(first), program)
            for end, schedule in first.items():
                self.assertEqual(schedule_for(program, end), schedule, program)
            stuck = [schedule for end, schedule in first.items() if end[0] == "stuck"]
            self.assertEqual(stuck_by(program), min(stuck, key=lambda row: (len(row), row)) if stuck else None)
            self.assertIs(is_orderless(program), len(first) == 1)
            if apart(program):
                self.assertEqual(len(first), 1)
        self.assertGreater(finite, 70)

    def test_errors(self):
        for thing in NO_PROGRAMS:
            for function in FUNCTIONS:
                with self.assertRaises(BadProgram):
                    function(thing)
            for function in (schedule_for, turn_paper_holds, touches):
                with self.assertRaises(BadProgram):
                    function(thing, None)


class TurnPaperTest(unittest.TestCase):
    def test_papers(self):
        self.assertEqual(turn_paper(program=ENDED), [(0, (1, None)), (1, (None,))])
        self.assertEqual(turn_paper(BOTH), [(0, (1, 2)), (1, (3, 4)), (2, (5, 6)), (3, (None,)), (4, (7,)), (5, (None,)), (6, (8,)), (7, (None,)), (8, (None,))])

    def played(self, program, paper):
        """Whether a paper tells what comes, by runs alone."""
        rows = dict(paper)
        for _ in range(60):
            schedule, number = [], 0
            while number is not None:
                ready = ready_at(program, schedule, len(schedule))
                self.assertEqual(len(ready), len(rows[number]))
                schedule.append(self.chance.randrange(len(ready)))
                number = rows[number][schedule[-1]]
            self.assertIsNone(ready_at(program, schedule, len(schedule)))

    def test_played(self):
        self.chance = random.Random(2)
        for program in (ENDED, BOTH, STUCK, yielding(2, 1), yielding(1, 1, 1)):
            paper = turn_paper(program)
            self.assertEqual([number for number, _ in paper], list(range(len(paper))))
            self.played(program, paper)
            self.assertIs(turn_paper_holds(program=program, thing=paper), True)

    def test_in_any_order_and_with_other_numbers(self):
        chance = random.Random(3)
        for program in (ENDED, BOTH, STUCK, yielding(1, 1, 1)):
            paper = turn_paper(program)
            for _ in range(5):
                names = [0] + chance.sample(range(1, 10 ** 6), len(paper) - 1)
                other = [(names[number], tuple([None if going is None else names[going] for going in goings])) for number, goings in paper]
                chance.shuffle(other)
                self.assertIs(turn_paper_holds(program, other), True)

    def test_two_numbers_for_one_standing(self):
        self.assertIs(turn_paper_holds(ENDED, [(0, (1, None)), (1, (None,))]), True)
        joined = ((), "| s | s := Semaphore new. [s signal] fork. [s signal] fork. s wait. s wait. ^ 3")
        paper = turn_paper(joined)
        merged = [number for number, _ in paper if sum(goings.count(number) for _, goings in paper) > 1]
        if merged:
            number = merged[0]
            split = [(row, goings) for row, goings in paper] + [(999, dict(paper)[number])]
            first = [row for row, goings in paper if number in goings][0]
            split[first] = (first, tuple([999 if going == number else going for going in split[first][1]]))
            self.assertIs(turn_paper_holds(joined, split), True)

    def test_alike_standings_are_one(self):
        program = ((), "[Processor yield. Processor yield] fork. [Processor yield. Processor yield] fork. Semaphore new wait")
        paper = turn_paper(program)
        used = [going for _, goings in paper for going in goings if going is not None]
        self.assertGreater(len(used), len(set(used)))
        number = [row for row in sorted(set(used)) if used.count(row) > 1][0]
        rows = dict(paper)
        first = [row for row, goings in paper if number in goings][0]
        rows[first] = tuple([5000 if going == number else going for going in rows[first]])
        rows[5000] = rows[number]
        self.assertIs(turn_paper_holds(program, list(rows.items())), True)

    def test_spoiled_papers(self):
        for program in (ENDED, BOTH, yielding(1, 1)):
            paper = turn_paper(program)
            for at, (number, goings) in enumerate(paper):
                rest = paper[:at] + paper[at + 1:]
                self.assertIs(turn_paper_holds(program, rest), False)
                self.assertIs(turn_paper_holds(program, paper + [(number, goings)]), False)
                self.assertIs(turn_paper_holds(program, rest + [(number, goings + (None,))]), False)
                self.assertIs(turn_paper_holds(program, rest + [(number, goings[:-1])]), False)
                self.assertIs(turn_paper_holds(program, rest + [(number, list(goings))]), False)
                self.assertIs(turn_paper_holds(program, rest + [[number, goings]]), False)
                for place, going in enumerate(goings):
                    for other in (0 if going is None else None, 7777, True, "1", -1):
                        changed = goings[:place] + (other,) + goings[place + 1:]
                        self.assertIs(turn_paper_holds(program, rest + [(number, changed)]), False, (paper, number, changed))
            self.assertIs(turn_paper_holds(program, paper + [(500, (None,))]), False)
            for thing in (None, True, 7, "", (), tuple(paper), [], {}, dict(paper), [None], [()], [(0,)], [(0, ())], [(True, paper[0][1])], [(False, paper[0][1])] + paper[1:],
                          [(number + 1, goings) for number, goings in paper]):
                self.assertIs(turn_paper_holds(program, thing), False, thing)

    def test_runs_without_a_turn(self):
        for thing, holds in (([], True), ((), False), (None, False), ([(0, ())], False), ([(0, (None,))], False), (0, False), ("", False)):
            self.assertIs(turn_paper_holds(((), "^ 3"), thing), holds)


class TouchesTest(unittest.TestCase):
    def touched(self, main, *classes, schedule=()):
        return touches(((*classes,), main), list(schedule))

    def test_the_numbers_of_objects(self):
        a = one("A", fields=("n", "m"), class_fields=("c",), methods=("n: x n := x", "n ^ n", "m ^ m"), class_methods=("c: x c := x", "c ^ c"))
        self.assertEqual(touches(program=((a,), "A new n: 3; n; m"), schedule=[]), ((((0, 0, 0), (0, 0, 1)), ((0, 0, 0),), False, False),))
        self.assertEqual(self.touched("[3] value. A new n: 3; m", a), ((((0, 1, 1),), ((0, 1, 0),), False, False),))
        self.assertEqual(self.touched("A c: 3. A c", a), ((((-1, 55, 0),), ((-1, 55, 0),), False, False),))
        self.assertEqual(self.touched("#(7 8) at: 2; at: 1 put: 3", a), ((((-1, 57, 2),), ((-1, 57, 1),), False, False),))
        self.assertEqual(self.touched("'zo' asSymbol. (Array new: 3) at: 3"), ((((0, 1, 3),), (), False, False),))
        self.assertEqual(self.touched("3 foo"), (((), ((0, 3, 1), (0, 3, 2)), False, False),))
        self.assertEqual(self.touched("[Error new signal: 3] on: Error do: [:e | e text]"), ((((0, 2, 0),), ((0, 2, 0),), False, False),))

    def test_what_was_written_is_read(self):
        a = one("A", fields=("n",), methods=("n: x n := x", "n ^ n"))
        self.assertEqual(self.touched("| a | a := A new n: #(5 6) copy; yourself. a n at: 2. [:x | x at: 1] value: a n", a)[0][0],
                         ((-1, 57, 1), (-1, 57, 2), (0, 0, 0), (0, 1, 1), (0, 1, 2)))
        self.assertEqual(self.touched("| a b | a := A new. b := a. b n: a. (b n == a) ifTrue: [a n]", a)[0][:2], (((0, 0, 0),), ((0, 0, 0),)))

    def test_several_processes(self):
        main = "| a p | a := Array new: 2. [a at: 1 put: Object new. (Array new: 1) at: 1] fork. p := [a at: 1] fork. Processor yield. a at: 2"
        self.assertEqual(self.touched(main), ((((0, 0, 2),), (), False, True), (((1, 1, 1),), ((0, 0, 1),), False, False), (((0, 0, 1),), (), False, False)))
        self.assertEqual(self.touched(main, schedule=[1]), self.touched(main))
        self.assertEqual(self.touched(main, schedule=[2]), ((((0, 0, 2),), (), False, True), ((), (), False, False), ((), (), False, False)))

    def test_each_kind_of_read(self):
        a = one("A", fields=("n", "m"), class_fields=("c",))
        for main, reads in (("#(1 2) copy", ((-1, 57, 1), (-1, 57, 2))), ("A new copy", ((0, 0, 0), (0, 0, 1))), ("'ab' copy. #ab copy. A copy. 3 copy. [] copy", ()),
                            ("Error new copy", ((0, 0, 0),)), ("#(1 2) printString", ((-1, 57, 1), (-1, 57, 2))), ("Transcript show: #(1 2)", ((-1, 57, 1), (-1, 57, 2))),
                            ("Transcript show: A new", ()), ("A new printString", ()), ("'ab' at: 1; size; reversed", ()), ("#(1 2) size", ()),
                            ("[:x :y | x] valueWithArguments: #(1 2)", ((-1, 57, 1), (-1, 57, 2))), ("#(1 2) = #(1 2)", ()), ("#(1 #(2)) at: 2", ((-1, 58, 2),)),
                            ("#(1 #(2)) printString", ((-1, 57, 1), (-1, 58, 1), (-1, 58, 2))), ("#(#(#(#(1)))) printString", ((-1, 58, 1), (-1, 59, 1), (-1, 60, 1))),
                            ("#() copy", ()), ("Semaphore new copy", ()), ("Transcript show: 'ab'; show: #ab; show: 3", ())):
            self.assertEqual(self.touched(main, a)[0][0], reads, main)

    def test_what_is_refused_reads_nothing(self):
        for main in ("#(1 2) at: 3", "#(1 2) at: nil", "#(1 2) at: 0 put: 3", "[:x | x] valueWithArguments: #(1 2)", "[:x | x] valueWithArguments: 3", "#(1 2) at: true put: 1"):
            self.assertEqual(self.touched(f"[{main}] on: Error do: [3]")[0][:2], ((), ()), main)

    def test_shows_and_signals(self):
        for main, flags in (("Transcript show: 3", (True, False)), ("[Transcript show: 3] value. 4", (True, False)), ("Semaphore new", (False, False)), ("Semaphore new signal", (False, True)),
                            ("Semaphore new signal; wait", (False, True)), ("Semaphore new wait", (False, True)), ("[] fork", (False, True)), ("[:x | x] fork", (False, True)),
                            ("3 become: 4", (False, True)), ("'a' become: 'b'", (False, True)), ("Processor me terminate", (False, True)), ("Processor yield", (False, False)),
                            ("Processor me", (False, False)), ("3 fork", (False, False)), ("Exception new signal", (False, False)), ("Transcript perform: #show: with: 3", (True, False)),
                            ("Transcript respondsTo: #show:", (False, False)), ("[] perform: #fork", (False, True)),
                            ("[true] whileTrue: [Transcript show: 'abcdefghijk']", (True, False)), ("| s | s := Semaphore new. s wait. s signal", (False, True))):
            self.assertEqual(self.touched(main)[0][2:], flags, main)
        self.assertEqual([row[2:] for row in self.touched("[Transcript show: 3] fork. [3] fork. [Semaphore new wait] fork. Processor yield")],
                         [(False, True), (True, False), (False, False), (False, True)])

    def test_becoming(self):
        self.assertEqual(self.touched("| a b | a := Array new: 1. b := Array new: 1. a become: b. a at: 1. a at: 1 put: 3")[0][:2], (((0, 1, 1),), ((0, 1, 1),)))
        main = "| a b | a := Array new: 1. [b := Array new: 1] fork. Processor yield. a become: b. a at: 1. b at: 1 put: 3"
        self.assertEqual(self.touched(main)[0][:2], (((1, 0, 1),), ((0, 0, 1),)))

    def test_arrays_as_far_as_they_are_told(self):
        wide = "| a b | b := Array new: 1. a := Array new: 200. 1 to: 200 do: [:i | a at: i put: 'abcdefghijklmnopqrstuvwxyz']. a at: 200 put: b. ^ a printString"
        rows = self.touched(wide)[0][0]
        self.assertIn((0, 1, 200), rows)
        self.assertNotIn((0, 0, 1), rows)
        self.assertIn((0, 0, 1), self.touched(wide.replace("a at: 200 put: b", "a at: 2 put: b"))[0][0])

    def test_wrong_places(self):
        with self.assertRaises(BadSchedule) as caught:
            touches(BOTH, [0, 5])
        self.assertEqual(caught.exception.place, 1)
        self.assertEqual(touches(((), "^ 3"), [7]), (((), (), False, False),))


class ApartTest(unittest.TestCase):
    HOLD = one("H", fields=("n", "a"), class_fields=("c",), methods=("n: x n := x", "n ^ n", "go ^ [self n. self work] fork", "work | b | b := Array new: 2. b at: 1 put: 3. ^ b at: 1",
                                                                     "own ^ [self work] fork", "write ^ [n := 5] fork", "read ^ [n] fork", "lit ^ #(1 2)", "litWrite ^ [self lit at: 1 put: 2] fork",
                                                                     "litRead ^ [self lit at: 1] fork", "cWrite ^ [H c: 3] fork", "show ^ [Transcript show: 3] fork", "deep ^ [[3] fork] fork",
                                                                     "swap ^ ['a' become: 'b'] fork", 
                                                                     "many ^ [Array new: 3. Object new n. self work. Processor yield. self work] fork", "far ^ [| k | k := 3. [k] value. k] fork",
                                                                     "var | k | ^ [k] fork", "set | k | ^ [k := 3] fork", "me ^ [Processor me. 3] fork", "stop ^ [Processor me terminate] fork"),
               class_methods=("c: x c := x",))

    def apart(self, main, is_apart, **more):
        program = ((self.HOLD,), "| h | h := H new. " + main)
        self.assertIs(apart(program=program), is_apart, main)
        if is_apart:
            self.assertIs(is_orderless(program), True, main)

    def test_apart(self):
        for main in ("3", "h own. Processor yield. ^ 3", "h own. h own. Processor yield. ^ h work", "h go. Processor yield. ^ h n", "h own. Transcript show: 'a'. Processor yield. Transcript show: 'b'",
                     "h many. h many. Processor yield. h work", "h far. Processor yield", "h me. Processor yield", "h litRead. Processor yield", "h read. Processor yield. ^ h n",
                     "h n: 3. ^ h n", "Semaphore new signal; wait. h own. Processor yield", "'a' become: 'b'. h own. Processor yield", "h foo", "H new. h own. 3", "h deep. 3"):
            self.apart(main, True)

    def test_each_thing_that_bars_it(self):
        for main in ("h show. Processor yield", "h deep. Processor yield", "h write. Processor yield", "h litWrite. Processor yield", "h cWrite. Processor yield", "h swap. Processor yield",
                     "h bad. Processor yield", "h n: 3. h read. Processor yield", "h read. Processor yield. h n: 3", "h var. Processor yield",
                     "h set. Processor yield", "h stop. Processor yield", "h own terminate", "h own terminate. Processor yield", "h lit at: 1 put: 2", "H c: 3", "Processor me terminate",
                     "[true] whileTrue: [Transcript show: 'abcdefghijklmnop']", "[h] fork. Processor yield"):
            self.apart(main, main.startswith("h bad"))

    def test_by_any_schedule(self):
        """What bars it comes by another schedule than the first one."""
        self.apart("h read. h own. Processor yield. ^ 3", True)
        main = "| h p | h := H new. h read. Processor yield. h n: 3. Processor yield. ^ 4"
        self.assertIs(apart(((self.HOLD,), main)), False)
        self.assertIs(apart(((self.HOLD,), "h show. h own. 3".replace("h ", "H new "))), True)

    def test_other_bounds(self):
        deep = one("D", methods=("m ^ self m", "go ^ [self m] fork"))
        self.assertIs(apart(((deep,), "D new go. Processor yield. ^ 3")), False)
        self.assertIs(apart(((deep,), "D new go. ^ 3")), True)
        with self.assertRaises(TooMany):
            apart(((one("L", methods=("loop ^ [[true] whileTrue: [3]] fork",)),), "L new loop. Processor yield"))

    def test_apart_is_orderless(self):
        found = 0
        for program in made_programs(ForkMaker, 92, 150) + made_programs(ProgramMaker, 93, 60) + made_programs(WayMaker, 94, 60):
            try:
                if apart(program):
                    found += 1
                    self.assertIs(is_orderless(program), True, program)
            except TooMany:
                pass
        self.assertGreater(found, 20)


if __name__ == "__main__":
    unittest.main()
