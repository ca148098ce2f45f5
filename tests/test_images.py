"""Points 40 and 41: the objects of the image and their numbers, and become:."""

import unittest

from samples import one

from imagetalk.kernel import PARENT_OF
from imagetalk.walk import walk
from imagetalk.worlds import World

FIRST = ["nil", "true", "false"] + [word for name in PARENT_OF for word in (name, name + " class")]


def at_end(program):
    world = World(program)
    while world.step(20000) == 20000:
        pass
    return world


def made_by(main, classes=()):
    """What is told of the objects behind those at the beginning, at the end of the run."""
    world = at_end((classes, main))
    return [told for _, told in world.objects()[len(World((classes, main)).objects()):]]


def at_first(program):
    """What is told of the objects at the beginning, behind the kernel's classes."""
    return [told for _, told in World(program).objects()[len(FIRST):]]


class BeginningTest(unittest.TestCase):
    def test_classes(self):
        self.assertEqual(World(((), "")).objects(), list(enumerate(FIRST)))
        self.assertEqual(len(FIRST), 55)
        self.assertEqual(FIRST[3:9], ["Object", "Object class", "Class", "Class class", "Metaclass", "Metaclass class"])
        self.assertEqual(FIRST[53:], ["Processor", "Processor class"])
        self.assertEqual(at_first(((one("B"), one("A", "B")), "")), ["B", "B class", "A", "A class"])

    def test_the_example(self):
        self.assertEqual(at_first(((), "^ #(#a 'b' #(c))")), ["#a", "'b'", "#c", "#(#c)", "#(#a 'b' #(#c))"])

    def test_literals_in_order(self):
        classes = (one("A", methods=("m ^ #x", "k 'one'. ^ #(1 x #(y 'two'))"), class_methods=("c ^ 'three'",)), one("B", methods=("m ^ 'four'", "n ^ 3")))
        self.assertEqual(at_first((classes, "#y. 'five'. ^ #(z)")),
                         ["A", "A class", "B", "B class", "#x", "'one'", "#y", "'two'", "#(#y 'two')", "#(1 #x #(#y 'two'))", "'three'", "'four'", "'five'", "#z",
                          "#(#z)"])

    def test_literals_that_are_alike(self):
        self.assertEqual(at_first(((), "'a'. 'a'. #a. #a. #(a). #(a). #(a #a). #'a b'")), ["'a'", "'a'", "#a", "#(#a)", "#(#a)", "#(#a #a)", "#'a b'"])
        self.assertEqual(at_first(((), "#(nil true false 3 -4). #()")), ["#(nil true false 3 -4)", "#()"])

    def test_selectors_and_blocks(self):
        self.assertEqual(at_first(((), "#foo yourself bar: [:x | [#baz] value. x foo: 'q']")), ["#foo", "#baz", "'q'"])
        self.assertEqual(at_first(((), "true ifTrue: ['a'] ifFalse: [#(b) yourself; foo: 'c']")), ["'a'", "#b", "#(#b)", "'c'"])


class MakingTest(unittest.TestCase):
    def test_what_a_run_makes(self):
        for main, told in (("[3] value", ["a Block"]), ("Object new", ["an Object"]), ("(Array new: 2) at: 1 put: String new", ["#('' nil)", "''"]),
                           ("3 foo", ["#foo", "a Message", "#()", "a NotUnderstood"]), ("#foo foo: 3", ["#foo:", "a Message", "#(3)", "a NotUnderstood"]),
                           ("1 // 0", ["a ZeroDivide"]), ("3 + nil", ["a BadKind"]), ("'ab' at: 1", ["'a'"]), ("'ab' , 'c'", ["'abc'"]), ("#a asString", ["'a'"]),
                           ("'a' asString", []), ("'a' asSymbol. 'a' asSymbol", ["#a"]), ("#a asSymbol", []), ("'ab' reversed", ["'ba'"]), ("3 printString", ["'3'"]),
                           ("Object name", ["'Object'"]), ("Processor me. Processor me", ["a Process"]), ("[] fork", ["a Block", "a Process"]),
                           ("Semaphore new signal", ["a Semaphore"]), ("#(1 2) copy", ["#(1 2)"]), ("3 copy. #a copy. Object copy. nil copy", []),
                           ("'a' copy", ["'a'"]), ("Object new copy", ["an Object", "an Object"]), ("true ifTrue: [3]", []), ("[:x | x] value: [4]", ["a Block", "a Block"]),
                           ("3 ifTrue: [4]", ["a BadKind"]), ("#(1 2) collect: [:e | e]", ["a Block", "#(1 2)", "a Block", ]),
                           ("Error new signal: 'a'", ["an Error"]), ("3 perform: #even", []), ("3 perform: 4", ["a BadKind"]), ("3 respondsTo: #zork", [])):
            self.assertEqual(made_by(main), told, main)

    def test_numbers_go_on(self):
        world = at_end(((), "^ 'a' , #b"))
        self.assertEqual(world.objects()[55:], [(55, "'a'"), (56, "#b"), (57, "'ab'")])
        world.collect()
        self.assertEqual(world.objects()[55:], [(55, "'a'"), (56, "#b"), (57, "'ab'")])
        world = World(((), "'a' reversed. ^ 'b' reversed"))
        world.step(2)
        self.assertEqual(world.objects()[57:], [(57, "'a'")])
        world.collect()
        self.assertEqual(world.objects()[57:], [(57, "'a'")])
        world.step(1)
        self.assertEqual(world.collect(), 1)
        world.step(20000)
        self.assertEqual(world.objects()[57:], [(57, "'b'")])

    def test_both_ways_make_as_many(self):
        """Where exactly so many objects are made as a run can have, told by the bound alone."""
        def filler(many):
            rows = "[3]. " * 20
            return "| k | k := 0. [k < %d] whileTrue: [%sk := k + 1]. %s" % (many // 20, rows, "[3]. " * (many % 20))
        for main, many in (("3 foo", 4), ("#(1 2) collect: [:e | e]", 3), ("[:x | x] value: [4]", 2), ("'ab' asSymbol", 1), ("[] fork", 2), ("Processor me", 1),
                           ("'a' copy. #(1) copy", 2), ("1 // 0", 1), ("'ab' , 'c'", 1), ("true ifTrue: [3]", 0), ("3 printString", 1)):
            enough, more = ((), filler(2000 - many) + main), ((), filler(2001 - many) + main)
            self.assertEqual(walk(enough, 5000)[0] == "stopped", False, main)
            self.assertEqual(walk(enough, 5000), World(enough).finish(5000))
            self.assertEqual(walk(more, 5000), World(more).finish(5000))
            self.assertEqual(walk(more, 5000)[:2], ("stopped", "objects"), main)


HOLDER = one("H", fields=("a", "b"), class_fields=("c",), methods=("a: x a := x", "a ^ a", "swap: x self become: x. ^ a", "lit ^ 'lit'", "run: x x become: self. a := 7. ^ self",
                                                                  "blk ^ [a]", "blk: x ^ [x]", "two: x ^ x"), class_methods=("c: x c := x", "c ^ c"))


class BecomingTest(unittest.TestCase):
    def told(self, main, value):
        program = ((HOLDER,), main)
        self.assertEqual(World(program).finish(5000)[:2], ("value", value), main)
        self.assertEqual(walk(program, 5000), World(program).finish(5000))

    def test_wherever_an_object_stands(self):
        self.told("| x y | x := 'x'. y := 'yz'. x become: y. ^ x , y", "'yzx'")
        self.told("| h x | x := 'x'. h := H new. h a: x. x become: 'yz'. ^ h a", "'yz'")
        self.told("| x | x := 'x'. H c: x. x become: 'yz'. ^ H c", "'yz'")
        self.told("| h x | x := 'x'. h := #(1 2) copy. h at: 1 put: x. x become: 'yz'. ^ h", "#('yz' 2)")
        self.told("| x | x := 'x'. ^ x , ((x become: 'yz') , '')", "'yzyz'")
        self.told("H new lit become: 'yz'. ^ H new lit", "'yz'")
        self.told("| h k | h := H new a: 1; yourself. k := H new a: 2; yourself. ^ h swap: k", "2")
        self.told("| h k | h := H new. k := H new. h run: k. ^ h a printString , k a printString", "'7nil'")
        self.told("| h k b | h := H new a: 1; yourself. k := H new a: 2; yourself. b := h blk. h become: k. ^ b value", "2")
        self.told("| x b | x := 'x'. b := H new blk: x. x become: 'yz'. ^ b value", "'yz'")
        self.told("| x | x := 'x'. ^ [x] ensure: [x become: 'yz']", "'yz'")
        self.told("| x m | x := 'x'. m := Message new. ^ [3 foo: x] on: Error do: [:e | x become: 'yz'. e message arguments]", "#('yz')")
        self.told("| x | x := 'x'. ^ [Error new signal: x] on: Error do: [:e | x become: 'yz'. e text]", "'yz'")
        self.told("| x | x := 'x'. ^ [[^ x] value. 3] ensure: [x become: 'yz']", "'yz'")
        self.told("| x p | x := 'x'. p := [:y | y]. ^ (p value: x) , ((x become: 'yz') , x)", "'yzyzyz'")

    def test_objects_keep_their_numbers(self):
        world = at_end(((HOLDER,), "| x y | x := 'x'. y := 'yz'. x become: y. ^ #(1) copy at: 1 put: x; yourself"))
        self.assertEqual([told for _, told in world.objects()[57:]], ["'lit'", "'x'", "'yz'", "#(1)", "#('yz')"])
        world = at_end(((HOLDER,), "| h k | h := H new a: 1; yourself. k := H new a: 2; yourself. h become: k. h a: 3"))
        self.assertEqual(world.objects()[58:], [(58, "a H"), (59, "a H")])
        self.assertEqual([world.fields(number)[0] for number in (58, 59)], [("a", "1"), ("a", "3")])

    def test_the_answer_and_itself(self):
        self.told("| x y | x := 'x'. y := 'yz'. ^ (x become: y) , '!'", "'yz!'")
        self.told("| x y | x := 'x'. y := 'yz'. ^ (x become: y) == x", "true")
        self.told("| x | x := 'x'. ^ (x become: x) == x", "true")
        self.told("| x | x := #(1) copy. x at: 1 put: x. x become: #(2). ^ x", "#(2)")
        self.told("| x y | y := #(1) copy. x := #(2). y at: 1 put: y. x become: y. ^ x", "#(#(2))")

    def test_refusals(self):
        for main in ("'a' become: #a", "#a become: #a", "#(1) become: 'a'", "'a' become: 3", "[] become: []", "Error new become: Error new", "H become: H",
                     "H new become: Object new", "(Semaphore new) become: Semaphore new", "3 become: 3", "nil become: nil", "[] fork become: [] fork"):
            self.assertEqual(World(((HOLDER,), main)).finish(5000)[:2], ("error", "BadKind"), main)


if __name__ == "__main__":
    unittest.main()
