"""Points 17 to 21, 41 and 53 to 55, as the walk shows them."""

import unittest

from cases import IN_PLACE, NO_BECOMING, PLACES, SENDS, TURNS, WAYS
from runs import EXAMPLES

from imagetalk.walk import walk, walk_trace


class CasesTest(unittest.TestCase):
    def test_the_examples_of_the_document(self):
        for classes, main, outcome, trace in EXAMPLES:
            self.assertEqual(walk((classes, main), 5000), outcome, main)
            self.assertEqual(walk_trace((classes, main), 5000), trace, main)

    def test_sends(self):
        for classes, main, outcome, trace in SENDS:
            self.assertEqual(walk((classes, main), 5000)[:3], outcome, main)
            if trace is not None:
                self.assertEqual(walk_trace((classes, main), 5000), trace, main)
                self.assertEqual(walk((classes, main), 5000)[3], len(trace), main)

    def test_what_is_done_in_place(self):
        for main, trace in PLACES:
            self.assertEqual(walk_trace(((), main), 5000)[:len(trace)], trace, main)

    def test_nothing_is_done_in_place(self):
        for main, first in (("true ifTrue: [3]", (1, "True", "ifTrue:")), ("false ifFalse: [3]", (1, "False", "ifFalse:")),
                            ("true ifTrue: [3] ifFalse: [4]", (1, "True", "ifTrue:ifFalse:")),
                            ("true ifFalse: [3] ifTrue: [4]", (1, "True", "ifFalse:ifTrue:")), ("true and: [3]", (1, "True", "and:")),
                            ("true or: [3]", (1, "True", "or:")), ("[false] whileTrue: [3]", (1, "Block", "whileTrue:")),
                            ("[true] whileFalse: [3]", (1, "Block", "whileFalse:")), ("3 ifTrue: [4]", (1, "Integer", "ifTrue:"))):
            self.assertEqual(walk_trace(((), main), 5000, in_place=False)[0], first, main)
            self.assertNotEqual(walk_trace(((), main), 5000, in_place=True)[:1], [first], main)

    def test_values_in_place_and_not(self):
        for classes, main, outcome in IN_PLACE:
            self.assertEqual(walk((classes, main), 5000)[:3], outcome, main)
            self.assertEqual(walk((classes, main), 5000, in_place=False)[:3], outcome, main)

    def test_ways_out_and_handlers(self):
        for classes, main, outcome in WAYS:
            self.assertEqual(walk((classes, main), 5000)[:3], outcome, main)
            self.assertEqual(walk((classes, main), 5000, in_place=False)[:3], outcome, main)

    def test_turns_and_becoming(self):
        for classes, main, outcome in TURNS:
            self.assertEqual(walk((classes, main), 5000)[:3], outcome, main)

    def test_what_cannot_become_another(self):
        for main in NO_BECOMING:
            self.assertEqual(walk(((), main), 5000)[:2], ("error", "BadKind"), main)
            self.assertEqual(walk(((), f"^ [{main}] on: BadKind do: [:e | 3]"), 5000)[:2], ("value", "3"), main)

    def test_the_answer_to_cannot_return_ends_the_block(self):
        late = ("Late", "Object", (), (), ("blk ^ [true ifTrue: [^ 3]. 9]",), ())
        program = ((late,), "| b | b := Late new blk. ^ [b value] on: CannotReturn do: [:e | e return: 4]")
        trace = [(1, "Late class", "new"), (1, "Late", "blk"), (1, "Block", "on:do:"), (3, "Block", "value"), (4, "Block", "cannotReturn:"),
                 (5, "CannotReturn class", "new"), (5, "CannotReturn", "signal"), (6, "CannotReturn", "return:")]
        self.assertEqual(walk(program, 5000), ("value", "4", "", 8))
        self.assertEqual(walk_trace(program, 5000), trace)


if __name__ == "__main__":
    unittest.main()
