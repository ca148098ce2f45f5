"""Points 46 to 48: senders and implementers, what can be reached, reach papers, and programs made smaller by that."""

import random
import unittest

from cases import all_programs
from naive_reach import GIVEN, MAIN, Naive, all_methods, own_methods
from programmaker import ProgramMaker, WayMaker
from runs import EXAMPLES
from samples import BOX, NO_PROGRAMS, ZOO, one
from test_oracle import made_programs

from imagetalk.classes import lookup
from imagetalk.errors import BadProgram, BadSelector
from imagetalk.kernel import PARENT_OF
from imagetalk.machine import machine, machine_trace
from imagetalk.programs import is_program
from imagetalk.reach import implementers, least_program, live_classes, never_reached, not_understood, reach_holds, reached, senders
from imagetalk.relations import calls, ringless
from imagetalk.treeways import selectors_of

KERNEL = sorted(PARENT_OF)
NO_SELECTORS = (None, True, 7, "", "a b", ":", "foo:bar", ["n"], "k:" * 21, "Foo-")

# What is reached in each program: what is taken as standing in main reaches these.
ALWAYS = [MAIN, ("Exception class", "signal"), ("NotUnderstood", "message:receiver:"), ("Object", "cannotReturn:"), ("Object", "doesNotUnderstand:"),
          ("Object", "mustBeBoolean")]


def own_reached(program):
    return [key for key in reached(program) if key in own_methods(program)]


class SendersTest(unittest.TestCase):
    def test_senders(self):
        self.assertEqual(senders(program=BOX, selector="n"), [MAIN])
        self.assertEqual(senders(BOX, "set:"), [("Box class", "of:")])
        self.assertEqual(senders(BOX, "zork"), [])
        self.assertEqual(senders(((), ""), "not"), [("Object", "notNil"), ("Object", "~=")])
        self.assertEqual(senders(((), "^ 3 not"), "not"), [MAIN, ("Object", "notNil"), ("Object", "~=")])
        self.assertEqual(senders(((), ""), "whileTrue:"), [("Block", "whileTrue:"), ("Integer", "timesRepeat:"), ("Integer", "to:do:")])
        self.assertEqual(senders(((), ""), "\\\\"), [("Integer", "even")])
        self.assertEqual(senders(ZOO, "name"), [("Dog", "name")])
        self.assertEqual(senders(ZOO, "new"), sorted([("Animal class", "new"), ("Dog", "wag"), MAIN] + senders(((), ""), "new")))

    def test_wherever_a_message_stands(self):
        for source in ("^ [:x | x foo]", "^ true ifTrue: [3 foo]", "3 bar; foo; baz", "^ super foo", "^ #(1) at: 3 foo put: 4", "| a | a := 3 foo"):
            self.assertEqual(senders(((one("A", methods=("m " + source,)),), ""), "foo"), [("A", "m")])
        for source in ("^ #foo", "^ #(foo)", "foo: x ^ 3"):
            source = source if source.startswith("foo") else "m " + source
            self.assertEqual(senders(((one("A", methods=(source,)),), ""), "foo"), [])
        self.assertEqual(senders(((one("A", methods=("m true ifTrue: [3]",)),), ""), "ifTrue:"), sorted(senders(((), ""), "ifTrue:") + [("A", "m")]))

    def test_all_selectors(self):
        for program in (ZOO, BOX, ((), "")):
            methods = all_methods(program)
            known = {selector for tree in methods.values() for selector in selectors_of(tree)}
            for selector in known:
                self.assertEqual(senders(program, selector), sorted(key for key, tree in methods.items() if selector in selectors_of(tree)), selector)

    def test_implementers(self):
        self.assertEqual(implementers(program=BOX, selector="n"), ["Box"])
        self.assertEqual(implementers(BOX, "of:"), ["Box class"])
        self.assertEqual(implementers(BOX, "="), ["Integer", "Object", "String"])
        self.assertEqual(implementers(ZOO, "="), ["Animal", "Integer", "Object", "String"])
        self.assertEqual(implementers(BOX, "new"), ["Object class"])
        self.assertEqual(implementers(ZOO, "new"), ["Animal class", "Object class"])
        self.assertEqual(implementers(ZOO, "signal"), ["Exception", "Exception class", "Semaphore", "Trouble"])
        self.assertEqual(implementers(BOX, "value"), ["Block"])
        self.assertEqual(implementers(BOX, "zork"), [])
        self.assertEqual(implementers(BOX, "ifTrue:"), ["False", "Object", "True"])

    def test_errors(self):
        for function in (senders, implementers):
            for thing in NO_PROGRAMS:
                with self.assertRaises(BadProgram):
                    function(thing, None)
            for selector in NO_SELECTORS:
                with self.assertRaises(BadSelector):
                    function(BOX, selector)


class ReachedTest(unittest.TestCase):
    def reaches(self, main, keys, *classes):
        self.assertEqual(own_reached((classes, main)), sorted([MAIN] + keys), main)

    def test_nothing_but_main(self):
        self.assertEqual(reached(program=((), "")), ALWAYS)
        self.assertEqual(live_classes(program=((), "")), KERNEL)
        self.assertEqual(never_reached(program=((), "")), [])

    def test_plain_messages(self):
        a, b = one("A", methods=("foo ^ 1", "bar ^ self baz", "baz ^ 3")), one("B", "A", methods=("foo ^ 2",))
        self.reaches("A new foo", [("A", "foo")], a, b)
        self.reaches("B new foo", [("A", "foo"), ("B", "foo")], a, b)
        self.reaches("A new bar", [("A", "bar"), ("A", "baz")], a, b)
        self.reaches("3 foo", [], a, b)
        self.reaches("3 foo. A", [("A", "foo")], a, b)
        self.reaches("A", [], a, b)
        self.reaches("[:x | x foo]. A", [("A", "foo")], a, b)
        self.reaches("A new; foo", [("A", "foo")], a, b)
        self.assertEqual(live_classes(((a, b), "B")), sorted(KERNEL + ["A", "B"]))
        self.assertEqual(live_classes(((a, b), "A")), sorted(KERNEL + ["A"]))

    def test_names_in_methods(self):
        a, b = one("A", methods=("go ^ B",)), one("B", methods=("go ^ C", "foo ^ 3"))
        c = one("C", "B", class_methods=("foo ^ 4",))
        self.reaches("A new go. 3 foo", [("A", "go"), ("B", "go"), ("B", "foo"), ("C class", "foo")], a, b, c)
        self.reaches("A new. 3 foo", [], a, b, c)
        self.assertEqual(live_classes(((a, b, c), "A go")), sorted(KERNEL + ["A", "B", "C"]))

    def test_classes_of_classes(self):
        a, b = one("A", class_methods=("foo ^ 1",)), one("B", "A", methods=("foo ^ 2",), class_methods=("bar ^ self foo",))
        self.reaches("A bar", [], a, b)
        self.reaches("B bar", [("A class", "foo"), ("B", "foo"), ("B class", "bar")], a, b)

    def test_what_stands_in_main_anyway(self):
        methods = [f"{selector.replace(':', ': x', 1) if selector.count(':') < 2 else 'value: x value: y'} ^ 1" for selector in GIVEN]
        self.reaches("A", [("A", selector) for selector in GIVEN], one("A", methods=tuple(methods)))
        self.reaches("3", [], one("A", methods=tuple(methods)))

    def test_done_in_place(self):
        found = reached(((), "true ifTrue: [3]"))
        for key in (("True", "ifTrue:"), ("False", "ifTrue:"), ("Object", "ifTrue:")):
            self.assertIn(key, found)
        self.assertNotIn(("True", "ifFalse:"), found)
        self.assertIn(("Block", "whileTrue:"), reached(((), "[true] whileTrue: [3]")))

    def test_kernel_methods(self):
        found = reached(((), "#(1) collect: [:e | e]"))
        for key in (("Array", "collect:"), ("Integer", "to:do:"), ("Block", "whileTrue:")):
            self.assertIn(key, found)
        self.assertNotIn(("Array", "indexOf:"), found)
        self.reaches("#(1) indexOf: A new", [("A", "=")], one("A", methods=("= o ^ true",)))

    def test_super(self):
        a = one("A", methods=("foo ^ 1", "isNil ^ 2"))
        b = one("B", "A", methods=("foo ^ super foo", "bar ^ 3"))
        other = one("C", methods=("foo ^ 9", "bar ^ 8", "zork ^ 7", "isNil ^ 5", "copy ^ 4"))
        self.reaches("B new go", [], a, b, other)
        self.reaches("C. B new go", [("A", "foo"), ("B", "go")], a, one("B", "A", methods=("go ^ super foo", "bar ^ 3")), other)
        self.reaches("C. B new go", [("B", "go"), ("A", "isNil")], a, one("B", "A", methods=("go ^ super isNil",)), other)
        self.reaches("C. B new go", [("B", "go")], a, one("B", "A", methods=("go ^ super copy",)), other)
        self.reaches("C. B new go", [("B", "go"), ("C", "zork")], a, one("B", "A", methods=("go ^ super zork",)), other)
        self.reaches("C. B go", [("B class", "go")], a, one("B", "A", class_methods=("go ^ super new",)), other)
        self.reaches("C. ^ super isNil", [], a, other)
        self.reaches("C. ^ super bar", [("C", "bar")], a, other)
        self.assertIn(("Object", "isNil"), reached(((), "super isNil")))
        self.assertNotIn(("Object", "isNil"), reached(((), "super copy")))

    def test_symbols(self):
        a = one("A", methods=("foo ^ 1", "bar: x ^ 2", "zork ^ #bar:", "+ x ^ 3"))
        self.reaches("A new foo: #zork", [], a)
        for word in ("perform: #foo", "perform: #foo with: 3", "respondsTo: #foo", "perform: #(foo) with: 3", "perform: #(#(3 foo))"):
            self.reaches(f"A new {word}", [("A", "foo")], a)
        self.reaches("A new perform: #zork", [("A", "zork"), ("A", "bar:")], a)
        self.reaches("A new zork. 3 respondsTo: 4", [("A", "zork"), ("A", "bar:")], a)
        self.reaches("#foo. A new zork", [("A", "zork")], a)
        self.reaches("#+. A new respondsTo: 3", [("A", "+")], a)
        self.reaches("A new perform: 'foo'", [], a)
        self.reaches("#foo. A. super perform: 3", [("A", "foo")], a)
        self.reaches("#foo. #go. A new go", [("A", "go")], one("A", methods=("foo ^ 3", "go ^ self", "no ^ 3 perform: 4")))

    def test_as_symbol(self):
        a, b = one("A", methods=("foo ^ B", "bar ^ 4"), class_methods=("baz ^ 5",)), one("B", methods=("one ^ 1",))
        both = [("A", "foo"), ("A", "bar"), ("A class", "baz"), ("B", "one")]
        c = one("C", methods=("two ^ 2",))
        self.reaches("A new perform: 'foo' asSymbol", both, a, b, c)
        self.reaches("'foo' asSymbol. A. 3 respondsTo: 4", both, a, b, c)
        self.reaches("'foo' asSymbol. A", [], a, b, c)
        self.reaches("#asSymbol. A. 3 perform: 4", both, a, b, c)
        self.assertIn(("Array", "inject:into:"), reached(((), "3 perform: 'a' asSymbol")))

    def test_never_reached(self):
        program = ((one("A", methods=("foo ^ 1", "bar ^ 2"), class_methods=("baz ^ 3",)), one("B", methods=("foo ^ 3",))), "A new foo")
        self.assertEqual(never_reached(program), [("A", "bar"), ("A class", "baz"), ("B", "foo")])

    def programs(self):
        return [(classes, main) for classes, main, _, _ in EXAMPLES] + [BOX, ZOO] + all_programs()[::8] + made_programs(ProgramMaker, 61, 60)

    def test_against_a_plain_writing(self):
        for program in self.programs():
            naive = Naive(program)
            self.assertEqual(reached(program), sorted(naive.reached), program)
            self.assertEqual(live_classes(program), sorted(naive.live))
            self.assertEqual(never_reached(program), sorted(set(naive.own) - naive.reached))
            self.assertEqual(not_understood(program), naive.not_understood())
            self.assertEqual(calls(program), naive.calls())
            self.assertEqual(ringless(program), naive.ringless())
            self.assertIs(reach_holds(program, (tuple(naive.reached), tuple(naive.live))), True)

    def test_no_run_works_another_method(self):
        looked = 0
        for program in self.programs() + made_programs(WayMaker, 62, 30):
            if "super" in str(program):
                continue
            found, methods = set(reached(program)), all_methods(program)
            for name, selector in {row[1:] for row in machine_trace(program, 3000)}:
                owner = lookup(program, name, selector)
                if (owner, selector) in methods:
                    looked += 1
                    self.assertIn((owner, selector), found)
        self.assertGreater(looked, 60)


class PaperTest(unittest.TestCase):
    def paper(self, program):
        return tuple(reached(program)), tuple(live_classes(program))

    def test_least_papers_hold(self):
        chance = random.Random(4)
        for program in (BOX, ZOO, ((), ""), ((), "3 perform: 'a' asSymbol")):
            methods, classes = self.paper(program)
            self.assertIs(reach_holds(program=program, thing=(methods, classes)), True)
            turned = list(methods), list(classes)
            for row in turned:
                chance.shuffle(row)
            self.assertIs(reach_holds(program, tuple(map(tuple, turned))), True)

    def test_one_row_missing(self):
        for program in (BOX, ZOO):
            methods, classes = self.paper(program)
            for key in methods:
                self.assertIs(reach_holds(program, (tuple(other for other in methods if other != key), classes)), False, key)
            for name in classes:
                self.assertIs(reach_holds(program, (methods, tuple(other for other in classes if other != name))), False, name)

    def test_one_row_too_many(self):
        a = one("A", methods=("foo ^ self bar", "bar ^ 1"), class_methods=("new ^ B",))
        b = one("B", methods=("bar ^ self zork", "zork ^ 2", "alone ^ 3"))
        program = ((a, b, one("C", "B")), "3")
        methods, classes = self.paper(program)
        self.assertEqual(methods, tuple(ALWAYS))
        for more, names, holds in (((("B", "alone"),), (), True), ((("B", "bar"),), (), True), ((("B", "bar"),), ("B",), False),
                                   ((("B", "bar"), ("B", "zork")), ("B",), True), ((), ("B",), True), ((), ("A", "B"), False),
                                   ((("A class", "new"),), ("A", "B"), True), ((("A class", "new"),), ("A",), False),
                                   ((("A class", "new"),), ("B",), True), ((), ("C", "B"), True),
                                   ((("Integer", "even"),), (), True), ((("Integer", "max:"),), (), False),
                                   ((("Integer", "max:"), ("Object", "ifTrue:ifFalse:"), ("True", "ifTrue:ifFalse:"), ("False", "ifTrue:ifFalse:")), (), True)):
            self.assertIs(reach_holds(program, (methods + more, classes + names)), holds, (more, names))

    def test_rows_twice(self):
        methods, classes = self.paper(BOX)
        self.assertIs(reach_holds(BOX, (methods + (MAIN,), classes)), False)
        self.assertIs(reach_holds(BOX, (methods, classes + ("Box",))), False)

    def test_what_is_no_paper(self):
        methods, classes = self.paper(BOX)
        for thing in (None, True, 7, "", (), [], (methods,), [methods, classes], (list(methods), classes), (methods, list(classes)), (methods, classes, ()), (classes, methods),
                      (methods + (("Box", "zork"),), classes), (methods + (("Box",),), classes), (methods + (["Box", "n"],), classes), (methods + (None,), classes),
                      (methods + (("Object", "=="),), classes), (methods + (("Foo", "n"),), classes), (methods + (("UndefinedObject", "doIt"),), classes),
                      (methods, classes + ("Box class",)), (methods, classes + ("Foo",)), (methods, classes + (None,)), (methods, classes + (7,)),
                      (methods + ((["Box"], "n"),), classes), (methods + (("Box", ["n"]),), classes), ({}, {}), (methods, classes + (["Box"],))):
            self.assertIs(reach_holds(BOX, thing), False, thing)

    def test_symbols(self):
        program = ((one("A", methods=("foo ^ 1", "bar ^ 3 perform: 4", "baz ^ 3 asSymbol", "zork ^ 5")),), "#foo. A")
        methods, classes = self.paper(program)
        self.assertIs(reach_holds(program, (methods, classes)), True)
        self.assertIs(reach_holds(program, (methods + (("A", "bar"),), classes)), False)
        self.assertIs(reach_holds(program, (methods + (("A", "bar"), ("A", "foo")), classes)), True)
        self.assertIs(reach_holds(program, (methods + (("A", "baz"),), classes)), True)
        self.assertIs(reach_holds(program, (methods + (("A", "baz"), ("A", "bar"), ("A", "foo")), classes)), False)
        spelled = ((one("A", methods=("foo ^ 1", "bar ^ 2")),), "#asSymbol. A. 3 perform: 4")
        self.assertIs(reach_holds(spelled, self.paper(spelled)), True)
        self.assertIs(reach_holds(spelled, (tuple(key for key in self.paper(spelled)[0] if key != ("A", "bar")), self.paper(spelled)[1])), False)
        everything = tuple(all_methods(program))
        self.assertIs(reach_holds(program, (everything, classes)), True)

    def test_errors(self):
        for thing in NO_PROGRAMS:
            for function in (reached, live_classes, never_reached, not_understood, least_program):
                with self.assertRaises(BadProgram):
                    function(thing)
            with self.assertRaises(BadProgram):
                reach_holds(thing, ())


class SmallerTest(unittest.TestCase):
    def test_not_understood(self):
        a = one("A", methods=("foo ^ self zork: 3", "bar ^ #nope", "baz ^ self lost"), class_methods=("make ^ super gone",))
        self.assertEqual(not_understood(program=((a,), "A new foo. 3 none; isNil. A make. 3 perform: #nope")),
                         [("", "doIt", "none"), ("A", "foo", "zork:"), ("A class", "make", "gone")])
        self.assertEqual(not_understood(((a,), "A new bar")), [])
        self.assertEqual(not_understood(((a,), "3 foo")), [("", "doIt", "foo")])
        self.assertEqual(not_understood(((a,), "A foo")), [("A", "foo", "zork:")])
        self.assertEqual(not_understood(((), "3 make; value; signal; fork. true ifTrue: [4 zork]")), [("", "doIt", "make"), ("", "doIt", "zork")])

    def test_least_program(self):
        a, b, c = one("A", fields=("n",), methods=("foo ^ 1", "bar ^ 2"), class_methods=("foo ^ 3", "baz ^ 4")), one("B", "A", class_fields=("k",)), one("C", "B")
        program = ((a, b, c), "B new foo")
        self.assertEqual(least_program(program=program), ((one("A", fields=("n",), methods=("foo ^ 1",), class_methods=("foo ^ 3",)), b), "B new foo"))
        self.assertEqual(least_program(((a, b, c), "3")), ((), "3"))
        self.assertEqual(least_program(((c[:1] + ("Object",) + c[2:], a), "C. A  new bar")), ((c[:1] + ("Object",) + c[2:], one("A", fields=("n",), methods=("bar ^ 2",))),
                                                                                           "C. A  new bar"))

    def test_outcome_and_trace_stay(self):
        programs = [(classes, main) for classes, main, _, _ in EXAMPLES] + [BOX, ZOO] + all_programs() + made_programs(ProgramMaker, 63, 120)
        smaller = 0
        for program in programs:
            least = least_program(program)
            self.assertTrue(is_program(least), program)
            outcome = machine(program, 5000)
            smaller += least != program
            if outcome[0] != "stopped":
                self.assertEqual(machine(least, 5000), outcome, program)
                self.assertEqual(machine_trace(least, 5000), machine_trace(program, 5000))
            self.assertEqual(least_program(least), least)
        self.assertGreater(smaller, 30)


if __name__ == "__main__":
    unittest.main()
