"""Points 17 to 24, 30, 35, 36 and 53 to 55 for programs made by chance, always the same ones."""

import random
import sys
import threading
import unittest

from cases import all_programs
from oracle import Oracle
from programmaker import ProgramMaker, WayMaker
from runs import EXAMPLES, rows_of

from imagetalk.codetexts import read_made, write_made
from imagetalk.judged import heights, is_sound
from imagetalk.machine import codes_done, machine, machine_trace, machine_with, moment
from imagetalk.maker import made_of, make_main
from imagetalk.passes import folded, least_made, peeped, tailed, tested, threaded, trimmed
from imagetalk.programread import read_program
from imagetalk.programs import is_program
from imagetalk.walk import walk, walk_trace

PASSES = (trimmed, threaded, folded, tested, peeped, tailed, least_made)


def made_programs(maker, seed, many):
    """Programs that a maker makes."""
    programs = []
    for number in range(many):
        program = maker(random.Random(seed * 10007 + number)).program()
        if is_program(program):
            programs.append(program)
    return programs


class OracleTest(unittest.TestCase):
    def compare(self, programs):
        kinds = {}
        for program in programs:
            for in_place in (True, False):
                oracle = Oracle(program, 600, in_place)
                outcome = oracle.run()
                self.assertEqual(walk(program, 600, in_place=in_place), outcome, program)
                self.assertEqual(walk_trace(program, 600, in_place=in_place), oracle.trace, program)
                kinds[outcome[0]] = kinds.get(outcome[0], 0) + 1
        return kinds

    def deep(self, work):
        """Works with more of Python's own recursion than usual."""
        found = []
        limit = sys.getrecursionlimit()
        sys.setrecursionlimit(100000)
        threading.stack_size(256 * 1024 * 1024)
        thread = threading.Thread(target=lambda: found.append(work()))
        thread.start()
        thread.join()
        threading.stack_size(0)
        sys.setrecursionlimit(limit)
        self.assertTrue(found, "the work has failed")
        return found[0]

    def test_known_programs(self):
        programs = all_programs() + [(classes, main) for classes, main, _, _ in EXAMPLES]
        programs += [((), "^ " + expression) for sign in ("=>", "!") for expression, _ in rows_of(sign)]
        self.deep(lambda: self.compare(programs))

    def test_programs_of_all_kinds(self):
        programs = made_programs(ProgramMaker, 1, 400)
        self.assertGreater(len(programs), 300)
        kinds = self.deep(lambda: self.compare(programs))
        self.assertGreater(min(kinds[kind] for kind in ("value", "error", "stuck", "stopped")), 3)

    def test_programs_full_of_ways_out(self):
        programs = made_programs(WayMaker, 2, 600)
        self.assertGreater(len(programs), 500)
        kinds = self.deep(lambda: self.compare(programs))
        self.assertGreater(min(kinds[kind] for kind in ("value", "error", "stuck")), 50)


class BothWaysTest(unittest.TestCase):
    def programs(self):
        return made_programs(ProgramMaker, 3, 200) + made_programs(WayMaker, 4, 200)

    def test_the_machine_tells_what_the_walk_tells(self):
        for program in self.programs():
            for in_place in (True, False):
                self.assertEqual(machine(program, 600, in_place=in_place), walk(program, 600, in_place=in_place), program)
                self.assertEqual(machine_trace(program, 600, in_place=in_place), walk_trace(program, 600, in_place=in_place), program)
            for sends in (0, 1, 4, 11):
                self.assertEqual(machine(program, sends), walk(program, sends), program)

    def test_in_place_or_not(self):
        compared = 0
        for program in self.programs():
            rows = [(walk(program, 600, in_place=in_place), walk_trace(program, 600, in_place=in_place)) for in_place in (True, False)]
            if all(outcome[0] != "stopped" and "cannotReturn:" not in [row[2] for row in trace] for outcome, trace in rows):
                self.assertEqual(rows[0][0][:3], rows[1][0][:3], program)
                compared += 1
        self.assertGreater(compared, 200)

    def test_passes(self):
        for program in self.programs()[::3]:
            plain = machine(program, 600)
            methods = read_program(program).methods
            for change in PASSES:
                places = []
                for name in methods:
                    for selector in methods[name]:
                        made = change(made_of(program, name, selector))
                        self.assertIs(is_sound(program, name, made), True)
                        self.assertEqual(read_made(write_made(made)), made)
                        places.append((name, made))
                other = machine_with(program, places[:20], 5000)
                if plain[0] != "stopped" and other[0] != "stopped":
                    self.assertEqual(other[:3], plain[:3], (change, program))
                    self.assertLessEqual(other[3], plain[3])

    def test_stacks(self):
        for program in self.programs()[::7]:
            known = {}
            for count in range(min(60, codes_done(program, 600))):
                rows = moment(program, count)
                for number, (kind, name, selector, place, values, _) in enumerate(rows):
                    if kind == "method":
                        if (name, selector) not in known:
                            made = make_main(program) if selector == "doIt" else made_of(program, name, selector)
                            known[(name, selector)] = heights(program, name, made)[0]
                        waits = 1 if number < len(rows) - 1 else 0
                        self.assertEqual(len(values) + waits, known[(name, selector)][place], (program, count))


if __name__ == "__main__":
    unittest.main()
