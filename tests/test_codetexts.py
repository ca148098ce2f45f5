"""Point 29: made methods written and read."""

import random
import unittest

from cases import all_programs
from test_making import ANSWER, FIELDS, made, nested

from imagetalk.codetexts import read_made, write_made
from imagetalk.errors import BadMade, BadText
from imagetalk.kernel import kernel_texts
from imagetalk.maker import made_of, make, make_main
from imagetalk.trees import read_method

UP_TO = """method upTo: 0
body 1 2 22 0
0 int 0
1 settemp 0 1
2 pop
3 temp 0 1
4 temp 0 0
5 send < 1
6 test yes 18 19
7 temp 0 1
8 int 1
9 send + 1
10 settemp 0 1
11 pop
12 field 0
13 temp 0 1
14 send + 1
15 setfield 0
16 pop
17 jump 3
18 const nil
19 pop
20 self
21 answer"""
TWO = """method a:b: 3
= 'it''s\\n\\\\n'
= #(a #nil (1 'x') - at:)
= #'a b'
body 2 3 3 2
0 test no 5 6
1 int -7
2 class Foo
body 0 0 1 1
0 answer
body 0 0 1 0
0 return
body 1 1 2 0
0 tail foo 0
1 tailsuper + 1"""


class CodeTextsTest(unittest.TestCase):
    def wrong(self, text, row):
        with self.assertRaises(BadText) as caught:
            read_made(text)
        self.assertEqual(caught.exception.row, row, text)

    def test_the_example(self):
        thing = make(FIELDS, "F", "upTo: k   | i |   i := 0. [i < k] whileTrue: [i := i + 1. n := n + i]")
        self.assertEqual(write_made(thing), UP_TO)
        self.assertEqual(write_made(made=thing), UP_TO)
        self.assertEqual(read_made(text=UP_TO), thing)

    def test_every_part(self):
        thing = ("a:b:", (("str", "it's\n\\n"), ("arr", (("sym", "a"), ("sym", "nil"), ("arr", (("int", 1), ("str", "x"))), ("sym", "-"), ("sym", "at:"))),
                          ("sym", "a b")),
                 (2, 3, (("test", False, 5, 6), ("int", -7), ("class", "Foo")),
                  ((0, 0, (ANSWER,), ((0, 0, (("return",),), ()),)), (1, 1, (("tail", "foo", 0), ("tailsuper", "+", 1)), ()))))
        self.assertEqual(write_made(thing), TWO)
        self.assertEqual(read_made(TWO), thing)

    def test_written_and_read_back(self):
        things = [make_main(program, in_place=in_place) for program in all_programs() for in_place in (True, False)]
        things += [made_of(((), ""), owner, read_method(source)[1]) for owner, source in kernel_texts()]
        things += [nested(40), made(ANSWER, literals=[("str", "\\" * 5 + "n\n\\n'"), ("sym", "\\\n"), ("str", ""), ("sym", "")]),
                   made(ANSWER, literals=[("str", "x" * 3000), ("arr", (("str", "\n" * 2500),))]), made(("lit", 10 ** 30), ("jump", 7))]
        for thing in things:
            self.assertEqual(read_made(write_made(thing)), thing)

    def test_what_is_no_made_method(self):
        for thing in (None, 7, "m", (), nested(41), made()):
            with self.assertRaises(BadMade):
                write_made(thing)

    def test_what_is_no_such_text(self):
        for thing in (None, True, 7, b"method m 0", ["method m 0"], "method m 0\t", "m\u00e9", "a" * 400001, "\x7f", "\r"):
            self.wrong(thing, -1)
        self.wrong("a" * 400000, 0)
        self.wrong("", 0)

    def test_each_row_that_is_wrong(self):
        for text in (UP_TO, TWO):
            rows = text.split("\n")
            for number, row in enumerate(rows):
                for other in ("", " ", row + " ", " " + row, row + " 0", "x" + row, row.replace(" ", "  ", 1), row.upper() + "?", "= x"):
                    self.wrong("\n".join(rows[:number] + [other] + rows[number + 1:]), number)

    def test_rows_too_many_and_missing(self):
        for text in (UP_TO, TWO):
            rows = text.split("\n")
            for number in range(1, len(rows)):
                self.wrong("\n".join(rows[:number]), number)
            self.wrong(text + "\n", len(rows))
            self.wrong(text + "\n0 answer", len(rows))
            self.wrong(text + "\n\n", len(rows))

    def test_heads(self):
        for row in ("method m", "method m -1", "method m 00", "method m +1", "method m 1 0", "method  0", "method a: 0 0", "method at:put 0", "Method m 0", "method m x"):
            self.wrong(row + "\nbody 0 0 1 0\n0 answer", 0)
        for row in ("body 0 0 1", "body 0 0 1 0 0", "body 21 21 1 0", "body 1 0 1 0", "body 0 1001 1 0", "body 0 0 0 0", "body 0 0 4001 0", "body 0 0 1 701",
                    "body -0 0 1 0", "body 00 0 1 0", "body 0 0 1 -1", "body a 0 1 0", "body -1 0 1 0", "bodies 0 0 1 0"):
            self.wrong("method m 0\n" + row + "\n0 answer", 1)
        self.wrong("method m 2\nbody 0 0 1 0\n0 answer", 1)
        self.wrong("method m 9999999999999999999999\n= 'a'", 2)

    def test_literals(self):
        for row in ("= 3", "= nil", "='a'", "= 'a", "= 'a''", "= a", "= #", "= #(", "= #( )", "= #(a b", "= #(a  b)", "= #(a b) ", "= #(#a)", "= #(#(a))", "= #(a))",
                    "= 'a\\'", "= 'a\\t'", "= #'a'", "= # a", "= #a b", "= #(self nil", "= \"a\" 'b'", "= #(a \"x\" b)", "= ##a", "= #'a' b", "= 'a' 'b'"):
            self.wrong("method m 1\n" + row + "\nbody 0 0 1 0\n0 answer", 1)
        for row in ("= #(self a)", "= #()", "= #(nil true)", "= #(#nil)", "= #(-3 - 3)", "= #at:put:", "= #''", "= ''", "= ''''", "= '\\n'", "= #(())", "= #('\\\\')"):
            text = "method m 1\n" + row + "\nbody 0 0 1 0\n0 answer"
            self.assertEqual(write_made(read_made(text)), text)
        deep = "= #" + "(" * 39 + ")" * 39
        self.assertEqual(read_made("method m 1\n" + deep + "\nbody 0 0 1 0\n0 answer")[0], "m")
        for many in (40, 5000, 100000):
            self.wrong("method m 1\n= #" + "(" * many + ")" * many + "\nbody 0 0 1 0\n0 answer", 1)

    def test_codes(self):
        for row in ("1 answer", "00 answer", "answer", "0", "0 answers", "0 int 01", "0 int -0", "0 int x", "0 int " + "9" * 61, "0 int " + "9" * 5000, "0 lit -1",
                    "0 test True 0 0", "0 test 1 0 0", "0 test yes 0", "0 const yes", "0 send foo", "0 send foo:bar 1", "0 class foo", "0 temp 0", "0 jump 3 4",
                    "0 class Foo class", "0 self 0"):
            self.wrong("method m 0\nbody 0 0 1 0\n" + row, 2)
        for row in ("0 send yes 0", "0 send no 0", "0 int -5", "0 class Yes", "0 const true", "0 test no 9 9", "0 send - 1", "0 lit 5"):
            text = "method m 0\nbody 0 0 1 0\n" + row
            self.assertEqual(write_made(read_made(text)), text)

    def test_too_many_bodies_in_one_another(self):
        text = write_made(nested(40))
        self.assertEqual(read_made(text), nested(40))
        rows = text.split("\n")
        rows[-2] = "body 0 0 1 1"
        self.wrong("\n".join(rows + ["body 0 0 1 0", "0 answer"]), len(rows) - 2)

    def test_texts_that_chance_has_spoilt(self):
        chance = random.Random(5)
        for _ in range(400):
            text = chance.choice((UP_TO, TWO))
            place = chance.randrange(len(text))
            spoilt = text[:place] + chance.choice(("", "0", "1", " ", "\n", "a", "'", "\\")) + text[place + chance.randint(0, 2):]
            try:
                thing = read_made(spoilt)
            except BadText as error:
                self.assertTrue(0 <= error.row <= len(spoilt.split("\n")))
            else:
                self.assertEqual(write_made(thing), spoilt)


if __name__ == "__main__":
    unittest.main()
