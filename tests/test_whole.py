"""Points 1 to 3 for the whole program: the same outcome and trace, however a program is worked; arguments and results."""

import inspect
import random
import unittest

import imagetalk.codes
from cases import all_programs
from programmaker import ProgramMaker, WayMaker
from runs import EXAMPLES
from samples import BOX, ZOO
from test_oracle import made_programs
from test_schedules import BOTH, ForkMaker

from imagetalk import codetexts, desk, flows, instep, judged, machine, maker, passes, reach, relations, schedules, stepper, treeways, trees, turns, walk, words, worlds
from imagetalk import classes, errors, kernel, programs
from imagetalk.machine import machine_trace

# The interface: each file with its functions and classes, and their parameters.
INTERFACE = {
    words: "words_of(source)",
    trees: "read_method(source) read_body(source) write_method(tree) write_body(tree) is_tree(thing) tree_size(tree)",
    treeways: "names_free(tree) selectors_of(tree) renamed(tree,name,other) blocks_of(tree)",
    programs: "is_program(thing) same_program(program,other) with_method(program,name,source) without_method(program,name,selector) "
              "with_fields(program,name,fields) with_parent(program,name,parent)",
    classes: "parent_of(program,name) class_of(program,name) fields_of(program,name) line_of(program,name) children_of(program,name) tower(program) "
             "lookup(program,name,selector) methods_of(program,name) method_of(program,name,selector) overridden(program,name)",
    kernel: "kernel_texts()",
    walk: "walk(program,sends,*,in_place=True) walk_trace(program,sends,*,in_place=True) walk_value(program,sends) answers(program,source,sends)",
    imagetalk.codes: "is_made(thing) codes_many(made) bodies_of(made)",
    maker: "make(program,name,source,*,in_place=True) make_main(program,*,in_place=True) made_of(program,name,selector,*,in_place=True)",
    codetexts: "write_made(made) read_made(text)",
    machine: "machine(program,sends,*,in_place=True) machine_trace(program,sends,*,in_place=True) machine_with(program,places,sends) codes_done(program,sends) "
             "moment(program,count) deepest(program) first_at(program,name,selector,place)",
    judged: "heights(program,name,made) height_paper(program,name,made) height_paper_holds(program,name,made,thing) is_sound(program,name,thing)",
    flows: "surely_set(program,name,made) unset_reads(program,name,made) ways_out(program,name,made) high_most(program,name,made)",
    passes: "trimmed(made) threaded(made) folded(made) tested(made) peeped(made) tailed(made) least_made(made) sizes_told(made)",
    instep: "same_deeds(made,other) first_unlike(made,other)",
    worlds: "World(program) read_world(text)",
    reach: "senders(program,selector) implementers(program,selector) reached(program) live_classes(program) never_reached(program) reach_holds(program,thing) "
           "not_understood(program) least_program(program)",
    relations: "far_returns(program) keeps(program) calls(program) ringless(program)",
    stepper: "Stepper(program) replayed(program,log)",
    turns: "run_by(program,schedule,sends) ready_at(program,schedule,turn)",
    schedules: "all_ends(program) schedule_for(program,end) is_orderless(program) stuck_by(program) turn_paper(program) turn_paper_holds(program,thing) "
               "touches(program,schedule) apart(program)",
    desk: "Desk()",
}
METHODS = {
    worlds.World: "step(count) finish(sends) trace(sends) objects() fields(number) copy() unlike(other) write() collect() garbage() put_method(name,source) "
                  "drop_method(name,selector) change_fields(name,fields) program() __eq__(other)",
    stepper.Stepper: "into() over() out() run_to(name,selector) until(count) frames() variables(number) stack(number) restart(number) back() log() __eq__(other)",
    desk.Desk: "say(row) program()",
}
PROPERTIES = {worlds.World: "ended shown sends", stepper.Stepper: "shown ended codes_done"}


def told(thing, name):
    """A function, class or method as the interface writes it."""
    words_in = [str(parameter) for parameter in inspect.signature(thing).parameters.values() if parameter.name != "self"]
    kinds = [parameter.kind for parameter in inspect.signature(thing).parameters.values()]
    if inspect.Parameter.KEYWORD_ONLY in kinds:
        words_in.insert(kinds.index(inspect.Parameter.KEYWORD_ONLY), "*")
    return f"{name}({','.join(words_in)})"


class InterfaceTest(unittest.TestCase):
    def test_functions_and_classes(self):
        for module, rows in INTERFACE.items():
            for row in rows.split(" "):
                name = row.partition("(")[0]
                thing = getattr(module, name)
                self.assertEqual(thing.__module__, module.__name__, row)
                self.assertEqual(told(thing, name), row)

    def test_methods_stand_in_the_classes_themselves(self):
        for owner, rows in METHODS.items():
            for row in rows.split(" "):
                name = row.partition("(")[0]
                self.assertIn(name, vars(owner), row)
                self.assertEqual(told(vars(owner)[name], name), row)
        for owner, names in PROPERTIES.items():
            for name in names.split(" "):
                self.assertIsInstance(vars(owner)[name], property)

    def test_errors_are_those_of_the_interface(self):
        self.assertTrue(all(issubclass(thing, errors.TalkError) for name, thing in vars(errors).items() if isinstance(thing, type)))


class MainPropertyTest(unittest.TestCase):
    def programs(self):
        chosen = [(rows, main) for rows, main, _, _ in EXAMPLES] + [BOX, ZOO, BOTH] + all_programs()[::3]
        return chosen + made_programs(ProgramMaker, 101, 80) + made_programs(WayMaker, 102, 80) + made_programs(ForkMaker, 103, 60)

    def stepped(self, program, chance):
        """What a Stepper shows at the end, and how many codes it took."""
        one = stepper.Stepper(program)
        while not one.ended:
            try:
                getattr(one, chance.choice(("into", "over", "out")))()
            except errors.Late:
                one.until(one.codes_done + 20000)
            if chance.random() < 0.2:
                one.back()
        return one.shown, one.codes_done

    def world(self, program, chance):
        """The outcome and the trace of a World that was stopped, written, read and collected on the way."""
        one = worlds.World(program)
        while not one.ended:
            one.step(chance.choice((1, 2, 5, 30, 1000)))
            word = chance.randint(0, 6)
            if word == 0:
                one = worlds.read_world(one.write())
            elif word == 1:
                one.collect()
            elif word == 2:
                one = one.copy()
        return one.finish(0), one.trace(0)

    def test_the_same_outcome_and_trace(self):
        chance = random.Random(7)
        for program in self.programs():
            outcome, trace = walk.walk(program, 5000), walk.walk_trace(program, 5000)
            self.assertEqual((machine.machine(program, 5000), machine_trace(program, 5000)), (outcome, trace), program)
            self.assertEqual(turns.run_by(program, [], 5000), outcome)
            self.assertEqual(self.world(program, chance), (outcome, trace), program)
            self.assertEqual(self.stepped(program, chance), (outcome[2], machine.codes_done(program, 5000)), program)

    def test_the_same_at_any_bound(self):
        chance = random.Random(8)
        for program in self.programs()[::4]:
            many = machine.machine(program, 5000)[3]
            for sends in {0, 1, many // 2, max(0, many - 1), many}:
                outcome = walk.walk(program, sends)
                self.assertEqual(machine.machine(program, sends), outcome)
                self.assertEqual(turns.run_by(program, [], sends), outcome)
                one = worlds.World(program)
                self.assertEqual((one.finish(sends), one.trace(sends)), (outcome, walk.walk_trace(program, sends)))
                while one.sends < sends and not one.ended:
                    one.step(chance.randint(1, 3))
                if one.sends <= sends and not one.ended:
                    self.assertEqual(one.finish(sends), outcome)


class ResultsTest(unittest.TestCase):
    def calls(self):
        """Functions without arguments, each of which calls one of the package's."""
        made = maker.make_main(BOX)
        one = worlds.World(BOX)
        one.step(9)
        step = stepper.Stepper(BOX)
        step.into()
        return [lambda: machine_trace(BOX, 5000), lambda: one.trace(5000), one.objects, lambda: one.fields(55), lambda: step.variables(0), lambda: step.stack(0), step.log,
                lambda: reach.reached(ZOO), lambda: reach.live_classes(ZOO), lambda: reach.never_reached(ZOO), lambda: reach.not_understood(ZOO), lambda: reach.senders(ZOO, "new"),
                lambda: reach.implementers(ZOO, "new"), lambda: relations.far_returns(ZOO), lambda: relations.keeps(BOX), lambda: relations.calls(BOX), lambda: relations.ringless(BOX),
                lambda: schedules.all_ends(BOTH), lambda: schedules.turn_paper(BOTH), lambda: turns.ready_at(BOTH, [], 0), lambda: schedules.schedule_for(BOTH, ("value", "nil", "bac")),
                lambda: schedules.stuck_by(((), "Semaphore new wait")), lambda: judged.heights(BOX, "Box", maker.made_of(BOX, "Box", "n")), lambda: imagetalk.codes.bodies_of(made)]

    def test_lists_are_new(self):
        for call in self.calls():
            first = call()
            self.assertIsInstance(first, list)
            again = call()
            self.assertEqual(first, again)
            self.assertIsNot(first, again)
            first.append("spoiled")
            self.assertEqual(call(), again)

    def test_tuples_are_tuples(self):
        one = stepper.Stepper(BOX)
        self.assertIsInstance(one.frames(), tuple)
        self.assertTrue(all(isinstance(row, tuple) for row in one.frames() + tuple(one.variables(0))))
        for reads, writes, shows, signals in schedules.touches(BOTH, []):
            self.assertEqual([type(part) for part in (reads, writes, shows, signals)], [tuple, tuple, bool, bool])
        self.assertIsInstance(schedules.touches(BOTH, []), tuple)
        self.assertTrue(all(isinstance(row, tuple) and isinstance(row[1], tuple) for row in schedules.turn_paper(BOTH)))
        self.assertIsInstance(reach.least_program(ZOO)[0][0][4], tuple)

    def test_arguments_stay_as_they_are(self):
        schedule, log = [0, 0], [("into",), ("until", 9)]
        turns.run_by(BOTH, schedule, 5000)
        schedules.touches(BOTH, schedule)
        step = stepper.replayed(BOX, log)
        step.into()
        self.assertEqual((schedule, log), ([0, 0], [("into",), ("until", 9)]))
        log.append("spoiled")
        self.assertEqual(step.log(), [("into",), ("until", 9), ("into",)])
        paper = schedules.turn_paper(BOTH)
        schedules.turn_paper_holds(BOTH, paper)
        self.assertEqual(paper, schedules.turn_paper(BOTH))


if __name__ == "__main__":
    unittest.main()
