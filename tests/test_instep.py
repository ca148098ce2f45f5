"""Point 39: made methods that go in step, and where they first do not."""

import random
import unittest

import naive_steps
from cases import all_programs
from programmaker import ProgramMaker
from test_judged import F, from_text
from test_machine import made
from test_making import codes_of

from imagetalk.errors import BadMade, BadProgram, BadSource, NotSound, TooMany
from imagetalk.instep import first_unlike, same_deeds
from imagetalk.maker import made_of, make, make_main
from imagetalk.passes import folded, least_made, peeped, tailed, tested, threaded, trimmed
from imagetalk.programread import read_program

PASSES = (trimmed, threaded, folded, tested, peeped, tailed, least_made)


def block(text, blocks=(), parameters=0, variables=0):
    return (parameters, variables, codes_of(text), tuple(blocks))


class InStepTest(unittest.TestCase):
    def check(self, one, other, way, **more):
        """Both ways about: a text each, or made methods."""
        one = from_text(one, **more) if isinstance(one, str) else one
        other = from_text(other, **more) if isinstance(other, str) else other
        for made_one, made_other in ((one, other), (other, one)):
            self.assertEqual(first_unlike(made_one, made_other), way, (made_one, made_other))
            self.assertIs(same_deeds(made_one, made_other), way is None)

    def test_each_kind_of_name(self):
        for code, other in (("self", "const nil"), ("const true", "const false"), ("int 3", "int 4"), ("class Object", "class Array"),
                            ("temp 0 0", "temp 0 1"), ("field 0", "field 1"), ("int 1", "const true"), ("int 0", "const nil")):
            self.check(f"{code}; answer", f"{code}; answer", None, variables=2)
            self.check(f"{code}; answer", f"{other}; answer", (), variables=2)
            self.check(f"self; {code}; send foo: 1; answer", f"self; {other}; send foo: 1; answer", (), variables=2)

    def test_codes_that_are_no_deeds(self):
        for text in ("int 3; answer", "self; pop; int 3; answer", "int 3; dup; pop; answer", "jump 2; self; int 3; answer", "int 3; jump 2; answer",
                     "int 3; self; pop; dup; dup; pop; pop; answer", "int 4; int 3; answer"):
            self.check("int 3; answer", text, None)
        self.check("int 3; int 4; answer", "int 4; int 3; answer", ())

    def test_what_deeds_leave(self):
        self.check("self; send foo 0; self; send bar 0; pop; answer", "self; send foo 0; self; send bar 0; answer", ())
        self.check("self; send foo 0; pop; self; send bar 0; answer", "self; send foo 0; self; send bar 0; answer", None)
        self.check("self; send foo 0; dup; send + 1; answer", "self; send foo 0; dup; send + 1; answer", None)
        self.check("self; send foo 0; dup; send + 1; answer", "self; send foo 0; self; send + 1; answer", ())
        self.check("self; super foo 0; answer", "self; send foo 0; answer", ())
        self.check("self; tail foo 0", "self; send foo 0; answer", ())
        self.check("self; tail foo 0", "self; tailsuper foo 0", ())
        self.check("self; tail foo 0", "self; tail bar 0", ())
        self.check("self; tail foo 0", "self; dup; tail foo 0", None)
        self.check("self; self; send + 1; answer", "self; self; send - 1; answer", ())

    def test_reads_are_dated(self):
        early = "temp 0 0; int 3; settemp 0 0; pop; answer"
        late = "int 3; settemp 0 0; pop; temp 0 0; answer"
        self.check(early, late, (), variables=1)
        self.check(early, "temp 0 0; int 3; settemp 0 0; self; pop; pop; answer", None, variables=1)
        self.check("field 0; self; send foo 0; pop; answer", "self; send foo 0; pop; field 0; answer", ())
        self.check("field 0; self; send foo 0; pop; answer", "field 0; self; send foo 0; pop; answer", None)
        self.check("temp 0 0; self; pop; answer", "self; pop; temp 0 0; answer", None, variables=1)

    def test_writes_leave_the_name_on_top(self):
        self.check("int 3; settemp 0 0; answer", "int 3; dup; settemp 0 0; pop; answer", None, variables=1)
        self.check("int 3; settemp 0 0; answer", "int 3; settemp 0 0; pop; temp 0 0; answer", (), variables=1)
        self.check("int 3; settemp 0 0; pop; int 3; answer", "int 3; settemp 0 0; answer", None, variables=1)
        self.check("int 3; setfield 0; answer", "int 3; setfield 1; answer", ())
        self.check("int 3; setfield 0; answer", "int 4; setfield 0; answer", ())
        self.check("int 3; settemp 0 0; answer", "int 3; settemp 0 1; answer", (), variables=2)
        self.check("int 3; settemp 0 0; settemp 0 0; answer", "int 3; settemp 0 0; answer", (), variables=1)

    def test_three_ways_behind_a_test(self):
        one = "self; test yes 4 6; int 1; answer; int 2; answer; answer"
        self.check(one, one, None)
        self.check(one, one.replace("yes", "no"), ())
        self.check(one, one.replace("int 1", "int 5"), (0,))
        self.check(one, one.replace("int 2", "int 5"), (1,))
        self.check(one, one.replace("answer; answer", "answer; send foo 0; answer"), (2,))
        self.check(one, one.replace("int 1", "int 5").replace("int 2", "int 5"), (0,))
        self.check("self; test yes 5 6; int 1; jump 6; pop; int 2; answer", "self; test yes 4 6; int 1; answer; int 2; answer; answer", None)
        self.check("field 0; test yes 4 6; int 1; answer; int 2; answer; answer", one, ())

    def test_ways_shortest_first(self):
        two = "self; test yes 9 11; self; test yes 6 8; {}; answer; {}; answer; answer; {}; answer; answer"
        same = two.format("int 1", "int 2", "int 3")
        for numbers, way in ((("int 1", "int 2", "int 4"), (1,)), (("int 5", "int 2", "int 3"), (0, 0)), (("int 1", "int 5", "int 3"), (0, 1)),
                             (("int 5", "int 6", "int 4"), (1,)), (("int 5", "int 6", "int 3"), (0, 0))):
            self.check(same, two.format(*numbers), way)
        self.check(same, same[:-len("answer")] + "send foo 0; answer", (2,))

    def test_loops(self):
        loop = "field 0; test yes 5 6; self; send foo 0; jump 7; const nil; answer; pop; jump 0"
        self.check(loop, loop, None)
        other = "jump 3; pop; jump 3; field 0; test yes 8 9; self; send foo 0; jump 1; const nil; answer"
        self.check(loop, other, None)
        self.check(loop, loop.replace("foo", "bar"), (0,))
        self.check(loop, loop.replace("const nil", "int 3"), (1,))
        self.check(make(F, "F", "m: k | i | i := 0. [i < k] whileTrue: [i := i + 1]. ^ i"),
                   make(F, "F", "m: k | i | i := 0. [i < k] whileTrue: [i := i + 2]. ^ i"), (0,))

    def test_a_pile_from_ahead_of_a_loop(self):
        """What was read ahead of the loop is dated ever farther back, so that no meeting is like another one."""
        read = "field 0; field 1; test yes 4 5; jump 1; answer; answer"
        told = "self; send foo 0; field 1; test yes 5 6; jump 2; answer; answer"
        for text in (read, told):
            with self.assertRaises(TooMany):
                first_unlike(from_text(text), from_text(text))
        for name in ("self", "int 3", "class Object"):
            self.check(f"{name}; field 1; test yes 4 5; jump 1; answer; answer", f"{name}; field 1; test yes 4 5; jump 1; answer; answer", None)

    def test_four_hundred_meetings(self):
        def long(many, last="answer"):
            return from_text("self; " + "send foo 0; " * (many - 1) + last)
        self.check(long(400), long(400), None)
        for other in (long(401), long(401, "tail bar 0")):
            with self.assertRaises(TooMany):
                first_unlike(long(401), other)
            with self.assertRaises(TooMany):
                same_deeds(other, long(401))
        self.check(long(400), long(400, "tail bar 0"), ())
        self.check(long(300), long(401), ())

    def test_rounds_without_a_deed(self):
        for text in ("jump 0", "self; pop; jump 0", "jump 2; self; jump 0"):
            for other in (text, "self; answer", "jump 1; jump 0"):
                with self.assertRaises(TooMany):
                    first_unlike(from_text(text), from_text(other))
                with self.assertRaises(TooMany):
                    same_deeds(from_text(other), from_text(text))

    def test_what_is_nearer_is_told(self):
        """A test with a round or too many meetings behind one way, and something unlike behind another one."""
        one = "self; test yes 4 6; {}; {}; {}; {}; answer"
        ring = one.format("jump 2", "answer".replace("answer", "jump 2"), "int 2", "answer")
        unlike = ring.replace("int 2", "int 3")
        with self.assertRaises(TooMany):
            first_unlike(from_text(ring), from_text(unlike))
        other = one.format("int 2", "answer", "jump 4", "jump 4")
        self.assertEqual(first_unlike(from_text(other), from_text(other.replace("int 2", "int 3"))), (0,))
        with self.assertRaises(TooMany):
            first_unlike(from_text(other), from_text(other))
        deep = "self; test yes 4 9; jump 10; answer; self; test yes 8 9; jump 6; answer; int {}; answer; " + "self; " + "send foo 0; " * 401 + "answer"
        deep = deep.replace("jump 6; answer; int {}", "int {}; answer; int 8")
        with self.assertRaises(TooMany):
            first_unlike(from_text(deep.format(1)), from_text(deep.format(2)))

    def test_literals_stand_for_each_other(self):
        a, b, c = ("str", "a"), ("str", "b"), ("sym", "c")

        def lits(text, *literals):
            return from_text(text, literals=literals)
        text = "lit 0; send foo 0; pop; lit 1; send foo 0; pop; lit 0; answer"
        turned = "lit 1; send foo 0; pop; lit 0; send foo 0; pop; lit 1; answer"
        self.check(lits(text, a, b), lits(text, a, b), None)
        self.check(lits(text, a, b), lits(turned, b, a), None)
        self.check(lits(text, a, b), lits(turned, a, b), ())
        self.check(lits(text, a, a), lits(turned, a, a), None)
        self.check(lits(text, a, a), lits(text.replace("lit 1", "lit 0"), a, a), ())
        self.check(lits(text, a, a), lits(text.replace("pop; lit 0; answer", "pop; lit 1; answer"), a, a), ())
        self.check(lits("lit 0; answer", a, b), lits("lit 0; answer", a), None)
        self.check(lits("lit 0; answer", c), lits("lit 0; answer", ("str", "c")), ())
        self.check(lits("lit 0; pop; self; answer", a), lits("lit 0; pop; self; answer", b), None)
        self.check(lits("lit 0; dup; send , 1; answer", a, a), lits("lit 0; lit 1; send , 1; answer", a, a), ())
        self.check(lits("lit 0; answer", a), lits("self; answer", a), ())

    def test_literals_are_paired_throughout(self):
        a = ("str", "a")
        text = "lit 0; test yes 4 6; {}; answer; {}; answer; answer"
        one = from_text(text.format("lit 1", "lit 1"), literals=(a, a, a))
        self.check(one, from_text(text.format("lit 2", "lit 2"), literals=(a, a, a)), None)
        self.check(one, from_text(text.format("lit 1", "lit 2"), literals=(a, a, a)), (1,))
        self.check(one, from_text(text.format("lit 0", "lit 1"), literals=(a, a, a)), (0,))
        inner = ("block 0; pop; lit {}; answer", "lit {}; answer")

        def with_block(outer, inside):
            return from_text(inner[0].format(outer), literals=(a, a), blocks=[block(inner[1].format(inside))])
        self.check(with_block(0, 0), with_block(1, 1), None)
        self.check(with_block(0, 0), with_block(0, 1), ())
        self.check(with_block(0, 1), with_block(1, 0), None)

    def test_blocks(self):
        def whole(*blocks):
            return from_text("block 0; answer", blocks=blocks)
        self.check(whole(block("int 1; answer")), whole(block("self; pop; int 1; answer")), None)
        self.check(whole(block("int 1; answer")), whole(block("int 2; answer")), ())
        self.check(whole(block("int 1; answer", parameters=1, variables=1)), whole(block("int 1; answer")), ())
        self.check(whole(block("int 1; answer", variables=3)), whole(block("int 1; answer")), None)
        self.check(whole(block("int 1; return")), whole(block("int 1; answer")), ())
        other = from_text("block 1; answer", blocks=[block("int 7; answer"), block("int 1; answer")])
        self.check(whole(block("int 1; answer")), other, None)
        deep = whole(block("block 0; answer", [block("block 0; return", [block("temp 3 0; answer")])]))
        deep = ("m", (), (0, 1, deep[2][2], deep[2][3]))
        self.check(deep, deep, None)
        unlike = ("m", (), (0, 1, deep[2][2], (block("block 0; answer", [block("block 0; return", [block("temp 3 0; send foo 0; answer")])]),)))
        self.check(deep, unlike, ())

    def test_blocks_behind_tests(self):
        text = "self; test yes 4 6; {}; answer; {}; answer; answer"
        one, two = block("self; test yes 4 6; int 1; answer; int 2; answer; answer"), block("self; test yes 4 6; int 1; answer; int 3; answer; answer")
        self.check(from_text(text.format("block 0", "int 1"), blocks=[one]), from_text(text.format("block 0", "int 1"), blocks=[two]), (0,))
        self.check(from_text(text.format("int 1", "block 0"), blocks=[one]), from_text(text.format("int 1", "block 0"), blocks=[two]), (1,))
        self.check(from_text(text.format("block 0", "block 0"), blocks=[one]), from_text(text.format("block 1", "block 0"), blocks=[one, one]), None)

    def test_meetings_in_blocks_are_counted_apart(self):
        def whole(many):
            inner = block("self; " + "send foo 0; " * (many - 1) + "answer")
            return from_text("block 0; pop; self; " + "send foo 0; " * 395 + "answer", blocks=[inner])
        self.check(whole(400), whole(400), None)
        with self.assertRaises(TooMany):
            first_unlike(whole(401), whole(401))

    def test_numbers_of_parameters(self):
        one = make(F, "F", "m: k ^ 3")
        self.check(one, make(F, "F", "m ^ 3"), ())
        self.check(one, make(F, "F", "k: other ^ 3"), None)
        self.check(one, ("m:", (), (1, 5, one[2][2], ())), None)

    def test_passes(self):
        rows = (("m: k ^ k", None), ("m ^ 2 + 3", ()), ("m | i | i := 0. ^ i", None), ("m n := 3. ^ n", None), ("m ^ true ifTrue: [3] ifFalse: [4]", ()),
                ("m ^ self foo", None), ("m: k k foo ifTrue: [^ 2 + 3]. ^ 7", None))
        for source, way in rows:
            thing = make(F, "F", source)
            for change in (trimmed, threaded):
                self.check(thing, change(thing), None)
            if source.startswith("m ^ 2") or "true ifTrue" in source:
                self.check(thing, least_made(thing), way)
        self.check(make(F, "F", "m ^ 2 + 3"), folded(make(F, "F", "m ^ 2 + 3")), ())
        self.check(make(F, "F", "m ^ self foo"), tailed(make(F, "F", "m ^ self foo")), ())
        inner = make(F, "F", "m: k k foo ifTrue: [^ 2 + 3]. ^ 7")
        self.check(inner, folded(inner), (0,))
        written = make(F, "F", "m | i | i := 3. ^ i")
        self.check(written, peeped(written), ())
        told = make(F, "F", "m: k 3. k. 'a'. ^ k")
        self.check(told, peeped(told), None)

    def test_all_programs_with_themselves(self):
        for program in all_programs()[::4]:
            book = read_program(program)
            things = [make_main(program)] + [made_of(program, owner, selector) for owner, methods in book.methods.items() for selector in methods]
            for thing in things:
                for change in (trimmed, threaded):
                    try:
                        self.assertIs(same_deeds(thing, change(thing)), True, thing)
                    except TooMany:
                        with self.assertRaises(TooMany):
                            same_deeds(thing, thing)

    def changed(self, chance, thing):
        """A made method with one code that is another one."""
        selector, literals, (parameters, variables, codes, blocks) = thing
        place = chance.randrange(len(codes))
        code = codes[place]
        if code[0] == "int":
            code = ("int", code[1] + 1)
        elif code[0] == "send" and code[2] == 0:
            code = ("send", "zork", 0)
        elif code[0] == "test":
            code = ("test", not code[1], *code[2:])
        elif code[0] == "const":
            code = ("const", chance.choice(("nil", "true", "false")))
        elif code[0] == "lit":
            code = ("lit", chance.randrange(len(literals)))
        elif code[0] == "self":
            code = ("int", 1)
        return (selector, literals, (parameters, variables, codes[:place] + (code,) + codes[place + 1:], blocks))

    def test_against_a_plain_writing(self):
        chance, found = random.Random(6), {}
        for _ in range(900):
            source = "m: x | y | " + ProgramMaker(chance).body(["x"], ["y"], chance.randint(1, 4), 4, 0.6)
            try:
                thing = make(F, "F", source)
                other = thing
                for _ in range(chance.randint(1, 3)):
                    change = chance.choice(PASSES + (None, None, None))
                    other = self.changed(chance, other) if change is None else change(other)
            except (BadProgram, BadSource, NotSound, TooMany):
                continue
            try:
                way = naive_steps.Naive(thing, other).first_unlike()
            except naive_steps.Round:
                with self.assertRaises(TooMany):
                    first_unlike(thing, other)
                way = "too many"
            else:
                self.assertEqual(first_unlike(thing, other), way, source)
            found[way] = found.get(way, 0) + 1
        self.assertGreater(len(found), 4)

    def test_wrong_arguments(self):
        good = made(("self",), ("answer",))
        bad = made(("pop",), ("answer",))
        for thing in (None, 7, "m", (), [], ("m", (), ()), list(good), made(("foo",))):
            for pair in ((thing, good), (good, thing), (thing, bad), (thing, thing)):
                for function in (same_deeds, first_unlike):
                    with self.assertRaises(BadMade):
                        function(*pair)
        for pair in ((bad, good), (good, bad), (bad, bad), (bad, None)):
            for function in (same_deeds, first_unlike):
                with self.assertRaises(NotSound):
                    function(*pair)
        self.assertIs(same_deeds(made=good, other=good), True)
        self.assertIsNone(first_unlike(made=made(("field", 99), ("answer",)), other=made(("field", 99), ("answer",))))
        self.assertEqual(first_unlike(made=made(("class", "Foo"), ("answer",)), other=made(("class", "Bar"), ("answer",))), ())


if __name__ == "__main__":
    unittest.main()
