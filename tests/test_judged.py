"""Points 32 to 35: heights, height papers, soundness, and what ways have written and come to."""

import random
import unittest

from cases import all_programs
from samples import BOX, NO_PROGRAMS, one
from test_machine import made
from test_making import codes_of

from imagetalk.errors import BadClass, BadCodes, BadMade, BadProgram
from imagetalk.flows import high_most, surely_set, unset_reads, ways_out
from imagetalk.judged import height_paper, height_paper_holds, heights, is_sound
from imagetalk.kernel import kernel_texts
from imagetalk.maker import made_of, make, make_main
from imagetalk.trees import read_method

F = ((one("F", fields=("n", "m"), class_fields=("c",)), one("G", "F", fields=("k",))), "")
MAX = make(F, "F", "max: k   n < k ifTrue: [^ k]. ^ n")
UP_TO = make(F, "F", "upTo: k   | i |   i := 0. [i < k] whileTrue: [i := i + 1. n := n + i]")
FUNCTIONS = (heights, height_paper, surely_set, unset_reads, ways_out, high_most)
BLOCK = (0, 0, codes_of("const nil; answer"), ())


def from_text(text, **more):
    return made(*codes_of(text), **more)


class HeightsTest(unittest.TestCase):
    def wrong(self, thing, body, place, name="F"):
        for function in FUNCTIONS:
            with self.assertRaises(BadCodes) as caught:
                function(F, name, thing)
            self.assertEqual((caught.exception.body, caught.exception.place), (body, place), thing)
        self.assertIs(is_sound(F, name, thing), False)
        self.assertIs(height_paper_holds(F, name, thing, [[(0, 0)]]), False)

    def right(self, thing, name="F"):
        self.assertIs(is_sound(F, name, thing), True, thing)
        paper = height_paper(F, name, thing)
        self.assertIs(height_paper_holds(F, name, thing, paper), True)

    def test_examples(self):
        self.assertEqual(heights(F, "F", MAX), [(0, 1, 2, 1, 0, 1, None, 0, 1, 0, 1)])
        self.assertEqual(heights(program=F, name="F", made=UP_TO), [(0, 1, 1, 0, 1, 2, 1, 0, 1, 2, 1, 1, 0, 1, 2, 1, 1, 0, 0, 1, 0, 1)])
        self.assertEqual(ways_out(F, "F", MAX), [(0, 5), (0, 10)])
        self.assertEqual(high_most(F, "F", MAX), 2)
        self.assertEqual(height_paper(F, "F", MAX), [[(0, 0), (1, 1), (2, 2), (3, 1), (4, 0), (5, 1), (7, 0), (8, 1), (9, 0), (10, 1)]])

    def test_each_code(self):
        for text, row in (("self; answer", (0, 1)), ("const nil; answer", (0, 1)), ("int 3; pop; self; answer", (0, 1, 0, 1)), ("self; dup; pop; answer", (0, 1, 2, 1)),
                          ("class Object; answer", (0, 1)), ("field 1; setfield 0; answer", (0, 1, 1)), ("self; int 3; send + 1; answer", (0, 1, 2, 1)),
                          ("self; int 1; int 2; super at:put: 2; answer", (0, 1, 2, 3, 1)), ("jump 2; pop; self; answer", (0, None, 0, 1)),
                          ("self; tail foo 0", (0, 1)), ("self; self; tailsuper + 1", (0, 1, 2)), ("self; self; self; answer", (0, 1, 2, 3)),
                          ("self; test yes 3 4; jump 3; int 3; answer", (0, 1, 0, 0, 1)), ("self; dup; test no 3 5; answer; jump 6; pop; answer", (0, 1, 2, 1, None, 2, 1)),
                          ("jump 0", (0,)), ("answer".replace("answer", "jump 1") + "; jump 0", (0, 0))):
            self.assertEqual(heights(F, "F", from_text(text)), [row], text)
            self.right(from_text(text))

    def test_too_few_values(self):
        for text, place in (("answer", 0), ("pop; self; answer", 0), ("dup; answer", 0), ("settemp 0 0; answer", 0), ("setfield 0; answer", 0), ("self; send + 1; answer", 1),
                            ("send foo 0; answer", 0), ("self; super + 1; answer", 1), ("test yes 1 2; self; answer", 0), ("tail foo 0", 0), ("self; tailsuper + 1", 1),
                            ("self; pop; answer", 2)):
            self.wrong(from_text(text, variables=1), 0, place)
        self.wrong(from_text("block 0; answer", blocks=[(0, 0, (("return",),), ())]), 1, 0)

    def test_other_heights(self):
        self.wrong(from_text("self; test yes 2 2; self; answer"), 0, 2)
        self.wrong(from_text("self; jump 0"), 0, 0)
        self.wrong(from_text("self; test yes 4 3; self; self; answer"), 0, 4)
        self.wrong(from_text("self; test yes 3 4; self; self; self; answer"), 0, 3)

    def test_what_is_not_there(self):
        for text, place in (("self", 0), ("self; pop", 1), ("jump 1", 0), ("self; test yes 9 2; self; answer", 1), ("self; test yes 2 9; self; answer", 1),
                            ("temp 0 1; answer", 0), ("temp 1 0; answer", 0), ("self; settemp 0 1; answer", 1), ("self; settemp 1 0; answer", 1), ("field 2; answer", 0),
                            ("self; setfield 2; answer", 1), ("lit 1; answer", 0), ("block 0; answer", 0), ("class Foo; answer", 0), ("self; send foo 1; answer", 1),
                            ("self; self; send + 0; answer", 2), ("self; send at: 0; answer", 1), ("self; self; super at:put: 1; answer", 2), ("self; tail foo: 0", 1),
                            ("self; return", 1)):
            self.wrong(from_text(text, variables=1, literals=[("str", "a")]), 0, place)
        for text in ("temp 0 0; answer", "field 1; answer", "lit 0; answer", "class G; answer", "class F; answer", "class Block; answer"):
            self.right(from_text(text, variables=1, literals=[("str", "a")]))
        self.right(from_text("field 2; answer"), "G")
        self.wrong(from_text("field 3; answer"), 0, 0, "G")
        self.right(from_text("field 0; answer"), "F class")
        self.wrong(from_text("field 1; answer"), 0, 0, "F class")
        self.right(from_text("field 1; answer"), "NotUnderstood")
        self.right(from_text("self; answer"), "Object class")

    def test_bodies_around(self):
        inner = (1, 2, codes_of("temp 1 2; temp 2 0; send + 1; settemp 0 1; answer"), ())
        middle = (0, 3, codes_of("block 0; return"), (inner,))
        self.right(made(*codes_of("block 0; answer"), parameters=0, variables=1, blocks=[middle]))
        self.wrong(made(*codes_of("block 0; answer"), blocks=[middle]), 2, 1)
        self.wrong(made(*codes_of("block 0; answer"), variables=1, blocks=[(0, 2, middle[2], (inner,))]), 2, 0)
        self.wrong(made(*codes_of("block 0; answer"), variables=1, blocks=[inner]), 1, 0)

    def test_return_and_tails(self):
        self.right(from_text("block 0; answer", blocks=[(0, 0, codes_of("self; return"), ())]))
        self.wrong(from_text("block 0; answer", blocks=[(0, 0, codes_of("self; tail foo 0"), ())]), 1, 1)
        self.wrong(from_text("self; tail foo 0", blocks=[BLOCK]), 0, 1)
        self.wrong(from_text("self; tailsuper foo 0", blocks=[BLOCK]), 0, 1)

    def test_the_first_body_and_the_least_place(self):
        bad = (0, 0, codes_of("pop; answer"), ())
        self.wrong(from_text("block 0; answer", blocks=[BLOCK, bad, bad]), 2, 0)
        self.wrong(from_text("block 0; answer", blocks=[(0, 0, codes_of("block 0; answer"), (bad,)), bad]), 2, 0)
        self.wrong(from_text("block 9; answer", blocks=[bad]), 0, 0)
        self.wrong(from_text("self; test yes 4 5; field 9; answer; field 8; answer"), 0, 2)
        self.wrong(from_text("jump 3; field 9; answer; self; test yes 1 2; field 8; answer"), 0, 1)

    def test_ways_behind_what_is_wrong_are_not_gone(self):
        self.wrong(from_text("jump 3; pop; answer; field 9; jump 1"), 0, 3)
        self.wrong(from_text("self; jump 4; pop; answer; test yes 6 5; self; field 9; pop; pop; pop"), 0, 5)
        self.wrong(from_text("self; test yes 5 4; field 9; field 8; self; answer"), 0, 2)

    def test_what_cannot_be_come_to(self):
        thing = from_text("self; answer; pop; temp 7 7; jump 99; field 50")
        self.assertEqual(heights(F, "F", thing), [(0, 1, None, None, None, None)])
        self.right(thing)

    def test_soundness_hangs_on_parameters(self):
        for selector, parameters in (("m", 0), ("+", 1), ("a:b:", 2)):
            for many in range(3):
                thing = from_text("self; answer", parameters=many, variables=many, selector=selector)
                self.assertIs(is_sound(F, "F", thing), many == parameters)
                self.assertEqual(heights(F, "F", thing), [(0, 1)])

    def test_what_the_maker_makes_is_sound(self):
        for program in all_programs():
            for in_place in (True, False):
                self.assertIs(is_sound(program, "UndefinedObject", make_main(program, in_place=in_place)), True)
        for owner, source in kernel_texts():
            self.assertIs(is_sound(BOX, owner, made_of(BOX, owner, read_method(source)[1])), True)

    def test_errors_and_their_order(self):
        for function in FUNCTIONS + (is_sound,):
            for thing in NO_PROGRAMS:
                with self.assertRaises(BadProgram):
                    function(thing, None, None)
            for name in (None, 7, "Foo", "f", "F class class", ["F"]):
                with self.assertRaises(BadClass):
                    function(F, name, None)
        for thing in (None, 7, "m", [], (), ("m", (), (0, 0, (), ())), made(("foo",))):
            for function in FUNCTIONS:
                with self.assertRaises(BadMade):
                    function(F, "F", thing)
            with self.assertRaises(BadMade):
                height_paper_holds(F, "F", thing, [])
            self.assertIs(is_sound(F, "F", thing), False)
        with self.assertRaises(BadProgram):
            height_paper_holds(None, None, None, None)
        with self.assertRaises(BadClass):
            height_paper_holds(F, None, None, None)


class PapersTest(unittest.TestCase):
    def holds(self, thing, paper):
        return height_paper_holds(program=F, name="F", made=thing, thing=paper)

    def test_any_order(self):
        paper = height_paper(F, "F", UP_TO)
        chance = random.Random(1)
        for _ in range(5):
            chance.shuffle(paper[0])
            self.assertIs(self.holds(UP_TO, paper), True)

    def test_a_row_too_many_missing_or_other(self):
        for thing in (MAX, UP_TO):
            paper = height_paper(F, "F", thing)
            for number, (place, height) in enumerate(paper[0]):
                self.assertIs(self.holds(thing, [paper[0][:number] + paper[0][number + 1:]]), False)
                self.assertIs(self.holds(thing, [paper[0] + [(place, height)]]), False)
                for other in ((place, height + 1), (place, height - 1), (place, None), [place, height], (place,), (place, height, 0), (place + 100, height)):
                    self.assertIs(self.holds(thing, [paper[0][:number] + [other] + paper[0][number + 1:]]), False)

    def test_places_that_cannot_be_come_to(self):
        paper = height_paper(F, "F", MAX)[0]
        self.assertIs(self.holds(MAX, [paper + [(6, 1)]]), True)
        self.assertIs(self.holds(MAX, [paper + [(6, 0)]]), False)
        self.assertIs(self.holds(MAX, [paper + [(11, 0)]]), False)
        dead = from_text("self; answer; pop; pop; answer")
        for height, found in ((3, True), (4, True), (2, False)):
            self.assertIs(self.holds(dead, [[(0, 0), (1, 1), (2, height), (3, height - 1), (4, height - 2)]]), found)
        self.assertIs(self.holds(dead, [[(0, 0), (1, 1), (4, 1)]]), True)
        self.assertIs(self.holds(dead, [[(0, 0), (1, 1), (3, 2)]]), False)
        self.assertIs(self.holds(from_text("self; answer; field 9; answer"), [[(0, 0), (1, 1), (2, 0), (3, 1)]]), False)

    def test_other_objects(self):
        for paper in (None, True, 7, "x", (), {}, [], [[]], [()], [None], [[(0, 0)], [(0, 0)]], [[None]], [[(0, 1)]], [[(1, 0)]], [[(False, 0)]], [[(0, False)]],
                      (((0, 0), (1, 1)),), [((0, 0), (1, 1))], [[[0, 0], [1, 1]]], [[("0", 0), (1, 1)]]):
            self.assertIs(self.holds(from_text("self; answer"), paper), False, paper)
        self.assertIs(self.holds(from_text("self; answer"), [[(1, 1), (0, 0)]]), True)

    def test_blocks(self):
        thing = from_text("block 0; answer", blocks=[BLOCK])
        good = [(0, 0), (1, 1)]
        self.assertIs(self.holds(thing, [good, good]), True)
        for paper in ([good], [good, good, good], [good, [(0, 0)]], [[(0, 0)], good]):
            self.assertIs(self.holds(thing, paper), False)

    def test_there_is_one_just_if_heights_raises_nothing(self):
        chance = random.Random(7)
        words = ("self", "pop", "dup", "answer", "jump {}", "test yes {} {}", "int 3", "send + 1", "temp 0 0", "settemp 0 1")
        sound = 0
        for _ in range(1500):
            rows = []
            many = chance.randint(2, 8)
            for _ in range(many):
                rows.append(chance.choice(words).format(chance.randint(0, many), chance.randint(0, many)))
            thing = from_text("; ".join(rows), variables=2)
            try:
                paper = height_paper(F, "F", thing)
            except BadCodes as error:
                self.assertEqual(error.body, 0)
                continue
            sound += 1
            self.assertIs(self.holds(thing, paper), True)
            self.assertEqual(heights(F, "F", thing), [tuple(dict(paper[0]).get(place) for place in range(many))])
        self.assertGreater(sound, 40)


class FlowsTest(unittest.TestCase):
    def test_surely_set(self):
        self.assertEqual(surely_set(F, "F", MAX), [((0,),) * 6 + (None,) + ((0,),) * 4])
        self.assertEqual(surely_set(program=F, name="F", made=UP_TO), [((0,),) * 2 + ((0, 1),) * 20])
        branches = from_text("self; test yes 6 10; int 1; settemp 0 0; settemp 0 2; jump 9; int 2; settemp 0 1; settemp 0 2; jump 10; answer", variables=3)
        self.assertEqual(surely_set(F, "F", from_text("self; test yes 5 5; int 1; settemp 0 0; jump 6; int 1; answer".replace("yes 5 5", "yes 5 6"), variables=1)),
                         [((), (), (), (), (0,), (), ())])
        self.assertEqual(surely_set(F, "F", branches)[0][9:], ((2,), ()))
        loop = from_text("self; test yes 5 6; int 1; settemp 0 0; jump 7; const nil; answer; pop; jump 0", variables=1)
        self.assertEqual(surely_set(F, "F", loop), [((), (), (), (), (0,), (), (), (0,), (0,))])

    def test_blocks_write_their_own(self):
        thing = from_text("block 0; pop; temp 0 0; answer", variables=1, blocks=[(1, 2, codes_of("int 1; settemp 1 0; settemp 0 1; answer"), ())])
        self.assertEqual(surely_set(F, "F", thing), [((), (), (), ()), ((0,), (0,), (0,), (0, 1))])
        self.assertEqual(unset_reads(F, "F", thing), [(0, 2, 0)])

    def test_unset_reads(self):
        self.assertEqual(unset_reads(F, "F", MAX), [])
        self.assertEqual(unset_reads(F, "F", UP_TO), [])
        self.assertEqual(unset_reads(program=F, name="F", made=make(F, "F", "m | a | ^ a")), [(0, 0, 0)])
        self.assertEqual(unset_reads(F, "F", make(F, "F", "m | a b | n ifTrue: [a := 1]. b := 2. ^ a + b")), [(0, 10, 0)])
        self.assertEqual(unset_reads(F, "F", make(F, "F", "m | a | n ifTrue: [a := 1] ifFalse: [a := 2]. ^ a")), [(0, 8, 0)])
        self.assertEqual(unset_reads(F, "F", make(F, "F", "m | a | [n] whileTrue: [a := 1]. ^ a")), [(0, 8, 0)])
        self.assertEqual(unset_reads(F, "F", make(F, "F", "m | a | ^ [| b | a. b]")), [(1, 2, 0)])
        self.assertEqual(unset_reads(F, "F", make(F, "F", "m ^ 3. ")), [])
        self.assertEqual(unset_reads(F, "F", from_text("self; answer; temp 0 0; answer", variables=1)), [])

    def test_ways_out(self):
        thing = make(F, "F", "m n ifTrue: [^ [^ 3]]. ^ [4]")
        self.assertEqual(ways_out(program=F, name="F", made=thing), [(0, 3), (0, 8), (1, 1), (2, 1)])
        self.assertEqual(ways_out(F, "F", from_text("self; tail foo 0; answer")), [(0, 1)])
        self.assertEqual(ways_out(F, "F", from_text("jump 0")), [])

    def test_high_most(self):
        self.assertEqual(high_most(program=F, name="F", made=from_text("self; self; self; answer")), 3)
        self.assertEqual(high_most(F, "F", from_text("jump 0")), 0)
        self.assertEqual(high_most(F, "F", make(F, "F", "m ^ [3 + (4 + (5 + 6))]")), 4)

    def test_new_lists(self):
        for function in (heights, height_paper, surely_set, ways_out):
            function(F, "F", MAX).append(7)
            self.assertNotIn(7, function(F, "F", MAX))


if __name__ == "__main__":
    unittest.main()
