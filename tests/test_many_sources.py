"""Points 4 to 6 and 9 once more: the sources of a program, which are parted at once, are read as each one by itself."""

import random
import unittest

from samples import deep, one
from test_quick import PIECES, PLAIN, words_or_none

from imagetalk.errors import BadProgram, BadSource
from imagetalk.manywords import words_of_all
from imagetalk.parsing import parsed_body, parsed_method
from imagetalk.programread import read_program
from imagetalk.programs import is_program, same_program
from imagetalk.words import words_of


EASY = ("^ 3 .", "A foo .", "a := 3 .", "'it''s' .", "#(a 'b') size .", "[:x | x] .", "b , 'x' .", "#'a b'", "#at:put: .", "^ -3")


def bare(words):
    """Words without their places."""
    return [word[:2] for word in words]


def read_or_none(read, source):
    """What is told of a source by itself, None if it is none."""
    try:
        parsed = read(source)
    except BadSource:
        return None
    return (parsed.tree, parsed.shallow, sorted(parsed.free), sorted(set(parsed.declared)), parsed.literals, parsed.keeps)


def where(program):
    """Where a program is wrong, None if it is right."""
    try:
        read_program(program)
    except BadProgram as error:
        return error.where
    return None


class WordsTest(unittest.TestCase):
    def test_as_each_one_by_itself(self):
        chance = random.Random(51)
        found = 0
        for _ in range(4000):
            sources = []
            for _ in range(chance.randint(1, 5)):
                sources.append("".join([chance.choice(PIECES) + chance.choice(("", " ", " ", "\n")) for _ in range(chance.randint(0, 6))]))
            rows = words_of_all(sources)
            if rows is None:
                continue
            self.assertEqual(len(rows), len(sources))
            for source, words in zip(sources, rows):
                if words is not None:
                    found += 1
                    self.assertEqual(bare(words), bare(words_or_none(words_of, source)), sources)
        self.assertGreater(found, 2000)

    def test_plain_ones(self):
        rows = words_of_all(list(PLAIN))
        self.assertEqual([bare(words) for words in rows], [bare(words_of(source)) for source in PLAIN])

    def test_strings_end_in_their_source(self):
        self.assertEqual(words_of_all(["m ^ 'a b", "n' foo"]), None)
        self.assertEqual(words_of_all(["m ^ 'a _ b'", "n"]), None)
        self.assertEqual([bare(words) for words in words_of_all(["m 'it''s'", "n #'' '' , 'x'"])], [bare(words_of("m 'it''s'")), bare(words_of("n #'' '' , 'x'"))])

    def test_one_that_is_not_plain_leaves_the_others(self):
        rows = words_of_all(["m ^ 'a'", "n ^ 3+'x'", "o ^ 'b'"])
        self.assertEqual(bare(rows[2]), bare(words_of("o ^ 'b'")))
        self.assertIsNone(rows[1])

    def test_too_long_a_source(self):
        self.assertIsNone(words_of_all(["m", "n " + " " * 1999]))
        self.assertIsNotNone(words_of_all(["m", "n " + " " * 1998]))
        self.assertIsNone(words_of_all(["m", "n \t"]))


class ProgramsTest(unittest.TestCase):
    def test_methods_as_each_one_by_itself(self):
        chance = random.Random(52)
        good = 0
        for number in range(600):
            sources = [f"m{place} " + "".join([chance.choice(PIECES if chance.random() < 0.2 else EASY) + " " for _ in range(chance.randint(0, 3))]) for place in range(3)]
            sources.insert(chance.randint(0, 3), chance.choice(PLAIN))
            main = "".join([chance.choice(EASY) + " " for _ in range(chance.randint(0, 2))])
            program = ((one("A", fields=("a", "b", "foo"), methods=tuple(sources)),), main)
            expected = None
            for place, source in enumerate(sources):
                told = read_or_none(parsed_method, source)
                if expected is None and (told is None or not told[1] or set(told[2]) - {"a", "b", "foo", "A"} or {"a", "b", "foo"} & set(told[3])
                                         or told[0][1] in [read_or_none(parsed_method, other)[0][1] for other in sources[:place]]):
                    expected = (0, 0, place)
            told = read_or_none(parsed_body, main)
            if expected is None and (told is None or not told[1] or set(told[2]) - {"A"}):
                expected = ("main",)
            self.assertEqual(where(program), expected, program)
            if expected is None:
                good += 1
                book = read_program(program)
                for source, parsed in zip(sources, book.methods["A"].values()):
                    self.assertEqual(parsed.tree, read_or_none(parsed_method, source)[0])
                self.assertEqual(book.main.tree, told[0])
        self.assertGreater(good, 60)

    def test_a_method_that_ends_in_the_next_one(self):
        for first, second in (("m ^ 'a b", "n' foo"), ("m ^ (3", "n )"), ("m [", "n ]"), ("m \"", "n \""), ("m #", "n"), ("m ^ #(", "n )")):
            program = ((one("A", methods=(first, second)),), "")
            self.assertEqual(where(program), (0, 0, 0), first)
            self.assertFalse(is_program(program))

    def test_too_deep_ones_among_others(self):
        self.assertEqual(where(((one("A", methods=("m ^ 3", deep("n ^ 3"), "o")),), "")), (0, 0, 1))
        self.assertEqual(where(((one("A", methods=("m ^ 3",)),), "3" + " foo" * 60)), ("main",))

    def test_main_beside_a_method_with_the_same_source(self):
        book = read_program(((one("A", methods=("A", "b ^ A new")),), "A"))
        self.assertEqual(book.methods["A"]["A"].tree, ("method", "A", (), (), ()))
        self.assertEqual(book.main.tree, ("method", "doIt", (), (), (("var", "A"),)))
        self.assertIsNone(same_program(((one("A", methods=("A",)),), "A"), ((one("A", methods=(" A ",)),), "\nA")))


if __name__ == "__main__":
    unittest.main()
