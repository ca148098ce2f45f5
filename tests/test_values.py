"""Points 14 and 15: what each method of the kernel answers, and what it is refused with."""

import unittest

from runs import rows_of

from imagetalk.kernel import BY_RULE, TEXTS
from imagetalk.walk import walk, walk_trace

SIGNALLED = ("BadKind", "WrongArguments", "ZeroDivide", "BadIndex", "CannotResume")


class ValuesTest(unittest.TestCase):
    def test_what_is_answered(self):
        for expression, told in rows_of("=>"):
            outcome = walk(((), "^ " + expression), 5000)
            self.assertEqual(outcome[:2], ("value", told), expression)

    def test_what_is_refused(self):
        for expression, word in rows_of("!"):
            program = ((), "^ " + expression)
            self.assertIn(word, SIGNALLED)
            self.assertEqual(walk(program, 5000)[:2], ("error", word), expression)
            trace = walk_trace(program, 5000)
            self.assertEqual(trace[-1], (trace[-2][0], word, "signal"), expression)

    def test_a_refusal_answers_what_its_signal_answers(self):
        for expression, word in rows_of("!"):
            if word != "CannotResume" and "fork" not in expression:
                program = ((), f"^ [{expression}. 1] on: {word} do: [:e | e text isNil ifTrue: [#caught]]")
                self.assertEqual(walk(program, 5000)[:2], ("value", "#caught"), expression)

    def test_each_method_has_a_row(self):
        text = " ".join(expression for expression, _ in rows_of("=>") + rows_of("!"))
        selectors = [selector for row in BY_RULE.values() for selector in row] + [selector for row in TEXTS.values() for selector, _ in row]
        elsewhere = ("become:", "terminate", "do:", "to:do:", "timesRepeat:", "doesNotUnderstand:", "message:receiver:",
                     "ifTrue:", "ifFalse:")
        for selector in selectors:
            if selector not in elsewhere:
                self.assertIn(selector.split(":")[0], text, selector)

    def test_rules_and_their_rows_in_the_trace(self):
        for expression, trace in (
                ("3 + 4", [(1, "Integer", "+")]),
                ("#a size", [(1, "Symbol", "size")]),
                ("Object name", [(1, "Object class", "name")]),
                ("Object class name", [(1, "Object class", "class"), (1, "Metaclass", "name")]),
                ("nil isNil", [(1, "UndefinedObject", "isNil"), (2, "UndefinedObject", "==")]),
                ("true not", [(1, "True", "not"), (2, "True", "==")]),
                ("3 perform: #max: with: 4", [(1, "Integer", "perform:with:"), (1, "Integer", "max:"), (2, "Integer", "<")]),
                ("3 perform: #+ with: nil", [(1, "Integer", "perform:with:"), (1, "Integer", "+"), (1, "BadKind", "signal")]),
                ("3 perform: #foo", [(1, "Integer", "perform:"), (1, "Integer", "foo"), (1, "Integer", "doesNotUnderstand:"),
                                     (2, "NotUnderstood class", "new"), (2, "NotUnderstood", "message:receiver:"),
                                     (2, "NotUnderstood", "signal")]),
                ("[:x | x yourself] value: 3", [(1, "Block", "value:"), (2, "Integer", "yourself")]),
                ("3 mustBeBoolean", [(1, "Integer", "mustBeBoolean"), (2, "BadKind class", "new"), (2, "BadKind", "signal")]),
                ("Exception signal: 3", [(1, "Exception class", "signal:"), (2, "Exception class", "new"),
                                         (2, "Exception", "signal:"), (3, "Exception", "signal")])):
            self.assertEqual(walk_trace(((), "^ " + expression), 5000), trace, expression)

    def test_loops_of_the_kernel(self):
        for main, shown in (("3 timesRepeat: [Transcript show: 'a']", "aaa"), ("0 timesRepeat: [Transcript show: 'a']", ""),
                            ("2 to: 4 do: [:i | Transcript show: i]", "234"), ("4 to: 2 do: [:i | Transcript show: i]", ""),
                            ("#(1 a) do: [:e | Transcript show: e]", "1a"), ("'xyz' do: [:e | Transcript show: e]", "xyz"),
                            ("#ab do: [:e | Transcript show: e printString]", "'a''b'"),
                            ("| n | n := 0. [n < 3] whileTrue: [Transcript show: n. n := n + 1]", "012"),
                            ("| n | n := 3. [n < 1] whileFalse: [Transcript show: n. n := n - 1]", "321")):
            for in_place in (True, False):
                self.assertEqual(walk(((), main), 5000, in_place=in_place)[:3], ("value", "nil", shown), main)

    def test_new_things_each_time(self):
        for expression, told in (("| s | s := 'ab'. ^ s printString == s printString", "false"),
                                 ("| s | s := 'ab'. ^ s asString == s", "true"), ("| s | s := 'ab'. ^ s reversed == s", "false"),
                                 ("| s | s := 'ab'. ^ (s , '') == s", "false"), ("| s | s := 'ab'. ^ s copy == s", "false"),
                                 ("^ #ab asString == #ab asString", "false"), ("^ Object name == Object name", "false"),
                                 ("^ Object new == Object new", "false"), ("| a | a := #(1 2). ^ a copy == a", "false"),
                                 ("| a b | a := #(1 2). b := a copy. b at: 1 put: 7. ^ a", "#(1 2)"),
                                 ("| b | b := [3]. ^ b copy == b", "true"), ("| p | p := [3] fork. ^ p copy == p", "true"),
                                 ("| e f | e := Error new. [e signal: 3] on: Error do: [:x]. f := e copy. ^ f text", "3"),
                                 ("| s t | s := Semaphore new signal; yourself. t := s copy. s wait. ^ t == s", "false")):
            self.assertEqual(walk(((), expression), 5000)[:2], ("value", told), expression)

    def test_a_copy_of_a_semaphore_has_no_signals(self):
        self.assertEqual(walk(((), "Semaphore new signal; wait. Semaphore new signal; copy; wait"), 5000)[0], "value")
        self.assertEqual(walk(((), "(Semaphore new signal; copy) wait"), 5000)[0], "stuck")

    def test_fields_of_new_and_copied_objects(self):
        box = ("Box", "Object", ("a", "b"), ("made",), ("a ^ a", "a: x a := x", "b ^ b"), ("made ^ made", "made: x made := x"))
        for main, told in (("^ Box new a", "nil"), ("| x | x := Box new a: 3; yourself. ^ x copy a", "3"), ("^ Box made", "nil"),
                           ("Box made: 4. ^ Box copy made", "4"), ("| x | x := Box new. x copy a: 3. ^ x a", "nil")):
            self.assertEqual(walk(((box,), main), 5000)[:2], ("value", told), main)

    def test_own_methods_in_the_place_of_the_kernels(self):
        zoo = ("Zoo", "Object", (), (), ("printString ^ 'z'", "= other ^ true", "doesNotUnderstand: m ^ m selector"), ("new ^ 7",))
        bad = ("Bad", "Error", (), (), ("signal ^ 9", "text ^ 8"), ())
        for main, told in (("^ Zoo new", "7"), ("^ Zoo copy new", "7"), ("^ Bad new signal", "9"), ("^ Bad signal: 3", "9"),
                           ("^ Bad new text", "8")):
            self.assertEqual(walk(((zoo, bad), main), 5000)[:2], ("value", told), main)
        keen = ("Keen", "Object", (), (), ("doesNotUnderstand: m ^ m selector", "printString ^ 'k'", "= other ^ true"), ())
        for main, told in (("^ Keen new foo", "#foo"), ("^ Keen new foo: 1 bar: 2", "#foo:bar:"), ("^ Keen new printString", "'k'"),
                           ("^ Keen new ~= 3", "false"), ("^ Keen new", "a Keen"), ("^ Keen new perform: #'a b'", "#'a b'")):
            self.assertEqual(walk(((keen,), main), 5000)[:2], ("value", told), main)


if __name__ == "__main__":
    unittest.main()
