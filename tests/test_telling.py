"""Point 16: what is told of values; walk_value of point 23."""

import unittest

from imagetalk.errors import BadCount, BadProgram, TooMany
from imagetalk.walk import walk, walk_value

KINDS = (
    ("3", "3"), ("-3", "-3"), ("0", "0"), ("-0", "0"), ("nil", "nil"), ("true", "true"), ("false", "false"), ("'a'", "'a'"), ("''", "''"),
    ("'it''s'", "'it''s'"), ("'a\nb'", "'a\nb'"), ("#a", "#a"), ("#at:put:", "#at:put:"), ("#+", "#+"), ("#'a b'", "#'a b'"), ("#''", "#''"),
    ("#'it''s'", "#'it''s'"), ("#'at:'", "#at:"), ("#nil", "#nil"), ("#'3'", "#'3'"), ("#()", "#()"), ("#(1 a #b 'c' nil)", "#(1 #a #b 'c' nil)"),
    ("#(a)", "#(#a)"), ("#(#nil nil)", "#(#nil nil)"), ("#(at:put: + #'a b')", "#(#at:put: #+ #'a b')"), ("#((1) ((2)))", "#(#(1) #(#(2)))"),
    ("#((((1))))", "#(#(#(..)))"), ("#((((()))) 1)", "#(#(#(..)) 1)"), ("#(((1) ((2)) 3) (4))", "#(#(#(1) #(..) 3) #(4))"), ("Object", "Object"),
    ("Error class", "Error class"), ("Metaclass", "Metaclass"), ("[3]", "a Block"), ("Object new", "an Object"), ("Error new", "an Error"),
    ("Exception new", "an Exception"), ("Message new", "a Message"), ("Semaphore new", "a Semaphore"), ("Processor me", "a Process"),
    ("NotUnderstood new", "a NotUnderstood"), ("Ion new", "an Ion"), ("Up new", "an Up"), ("Oar new", "an Oar"), ("Ear new", "an Ear"),
    ("Yes new", "a Yes"), ("Ant new", "an Ant"), ("Ant", "Ant"), ("Ant class", "Ant class"))
CLASSES = tuple((name, "Object", ("n",), (), ("n: x n := x",), ()) for name in ("Ion", "Up", "Oar", "Ear", "Yes", "Ant"))

TREES = (
    ("3", ("int", 3)), ("'a'", ("str", "a")), ("#a", ("sym", "a")), ("nil", ("var", "nil")), ("true", ("var", "true")), ("false", ("var", "false")),
    ("#(1 a (nil))", ("arr", (("int", 1), ("sym", "a"), ("arr", (("var", "nil"),))))), ("Ant", ("var", "Ant")), ("Ant class", ("var", "Ant class")),
    ("Ant new", ("object", "Ant", (("var", "nil"),))), ("[3]", ("object", "Block", ())), ("Semaphore new", ("object", "Semaphore", ())),
    ("(Error new text; yourself)", ("object", "Error", (("var", "nil"),))), ("Processor me", ("object", "Process", ())),
    ("(Ant new n: #(1); yourself)", ("object", "Ant", (("arr", (("int", 1),)),))),
    ("#(((((1))))) ", ("arr", (("arr", (("arr", (("arr", (("arr", (("int", 1),)),)),)),)),))),
    ("#((((((1)) 2 'a')))) ", ("arr", (("arr", (("arr", (("arr", (("arr", (("var", "nil"),)), ("int", 2), ("str", "a"))),)),)),))))


def ring(many):
    """A main whose value is an Array that holds itself so many times."""
    return f"| a | a := Array new: {many}. 1 to: {many} do: [:i | a at: i put: a]. ^ a"


class TellingTest(unittest.TestCase):
    def test_each_kind_of_value(self):
        for expression, told in KINDS:
            self.assertEqual(walk((CLASSES, "^ " + expression), 5000)[:2], ("value", told), expression)

    def test_the_same_is_printed_and_shown(self):
        for expression, told in KINDS:
            quoted = "'" + told.replace("'", "''") + "'"
            self.assertEqual(walk((CLASSES, f"^ ({expression}) printString"), 5000)[1], quoted, expression)
            bare = told if not expression.startswith(("'", "#'", "#a", "#+", "#nil")) else None
            if bare is not None:
                self.assertEqual(walk((CLASSES, f"Transcript show: ({expression})"), 5000)[2], bare, expression)

    def test_two_thousand_characters(self):
        filled = "| s | s := ''. {} timesRepeat: [s := s , 'abcdefghij']. ^ s{}"
        for many, more, length in ((199, "", 1992), (199, " , '12345678'", 2000), (199, " , '123456789'", 2001), (200, "", 2002)):
            told = walk(((), filled.format(many, more)), 5000)[1]
            self.assertEqual(len(told), min(length, 2000))
            self.assertEqual(told.endswith(".."), length > 2000)
            self.assertTrue(told.startswith("'abcdefghijabc"))
        told = walk(((), filled.format(200, "") + " printString"), 5000)
        self.assertEqual(told[0], "value")

    def test_long_arrays(self):
        told = walk(((), "| a | a := Array new: 200. 1 to: 200 do: [:i | a at: i put: 1000000000 + i]. ^ a"), 5000)[1]
        whole = "#(" + " ".join(str(1000000000 + i) for i in range(1, 201)) + ")"
        self.assertEqual(told, whole[:1998] + "..")
        nested = "#(#(" + "#(" + ".. " * 199 + "..) "
        self.assertEqual(walk(((), ring(200)), 5000)[1][:600], nested[:600])
        self.assertEqual(len(walk(((), ring(200)), 5000)[1]), 2000)
        self.assertEqual(walk(((), ring(1)), 5000)[1], "#(#(#(..)))")
        exact = "| a | a := Array new: 200. 1 to: 200 do: [:i | a at: i put: 100000000]. a at: 1 put: {}. ^ a"
        for first, length in ((10 ** 5, 1999), (10 ** 6, 2000), (10 ** 7, 2001)):
            told = walk(((), exact.format(first)), 5000)[1]
            self.assertEqual((len(told), told.endswith("..")), (min(length, 2000), length > 2000))

    def test_errors_are_told_whole(self):
        main = "| s | s := ''. 200 timesRepeat: [s := s , 'abcdefghij']. Error signal: s"
        self.assertEqual(walk(((), main), 5000)[1], "Error: " + "abcdefghij" * 200)


class ValueTreesTest(unittest.TestCase):
    def test_trees(self):
        for expression, tree in TREES:
            self.assertEqual(walk_value((CLASSES, "^ " + expression), 5000), tree, expression)

    def test_objects_within_five(self):
        main = "| a | a := 7. 7 timesRepeat: [a := Ant new n: a; yourself]. ^ a"
        tree = ("var", "nil")
        for _ in range(5):
            tree = ("object", "Ant", (tree,))
        self.assertEqual(walk_value((CLASSES, main), 5000), tree)

    def test_other_kinds_have_none(self):
        for main in ("1 foo", "Semaphore new wait", "[true] whileTrue: []"):
            self.assertIsNone(walk_value(((), main), 5000))
        self.assertIsNone(walk_value(((), "^ 3 + 4"), 0))

    def test_a_main_that_was_ended(self):
        self.assertEqual(walk_value(((), "Processor me terminate"), 5000), ("var", "nil"))

    def test_too_many(self):
        grid = "| a b | a := Array new: {}. 1 to: {} do: [:i | b := Array new: 100. a at: i put: b]. ^ a"
        self.assertEqual(len(walk_value(((), grid.format(39, 39)), 5000)[1]), 39)
        more = "| a b | a := Array new: 40. 1 to: 39 do: [:i | b := Array new: 100. a at: i put: b]. a at: 40 put: (Array new: {}). ^ a"
        self.assertEqual(walk_value(((), more.format(59)), 5000)[0], "arr")
        with self.assertRaises(TooMany):
            walk_value(((), more.format(60)), 5000)
        with self.assertRaises(TooMany):
            walk_value(((), ring(200)), 5000)

    def test_long_integers(self):
        self.assertEqual(walk_value(((), "| n | n := 1. 199 timesRepeat: [n := n * 10]. ^ n"), 5000), ("int", 10 ** 199))

    def test_wrong_arguments(self):
        with self.assertRaises(BadProgram):
            walk_value(((),), True)
        for sends in (True, False, None, -1, 5001, "3", [], 10 ** 30):
            with self.assertRaises(BadCount):
                walk_value(((), ""), sends)
        self.assertEqual(walk_value(program=((), "^ 3"), sends=0), ("int", 3))


if __name__ == "__main__":
    unittest.main()
