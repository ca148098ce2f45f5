"""Points 4 to 6 once more: what reads most sources fast reads them as what reads all sources does."""

import random
import unittest

from grammar import WORDS, Prefix
from samples import deep
from treemaker import Maker

from imagetalk.errors import BadSource, TooMany
from imagetalk.parsing import parsed_body, parsed_method, parsed_slowly
from imagetalk.plainwords import plain_words
from imagetalk.quick import Quick, Unsure
from imagetalk.trees import is_tree, read_body, read_method, write_method
from imagetalk.treeparts import declared_names, depth_of, free_names, literal_trees
from imagetalk.words import parted, words_of

PIECES = ("a foo Foo2 at: put: x 3 -3 007 -0 'a' '' 'it''s' '''' #a #at:put: #at:put #+ #-3 #'' #( ( ) [ ] : :x := | ^ . ; + - // \\\\ <= < "
          "== = ~= ~~ , ' # @ { } _ a_b a: :: ! a:= at:= \"c\" \"").split(" ") + ["- 3", "#'a b'", "9" * 60, "9" * 61, "a" * 40, "a" * 41, "b" * 40 + ":",
                                                                                 "b" * 41 + ":", "#" + "c" * 41, "#" + "c" * 40 + ":", "\n", "'a\n'"]
PLAIN = ("at: k put: j | t | t := k. ^ [:u | u]", "deep ^ #" + "(" * 38 + ")" * 38, "m ^ 'it''s' , #'a b' , #at:put: , #+", "+ k ^ k", "printString ^ super printString",
         "m ^ a foo; bar: 3; + 4", "m ^ [:x] value: -3", "m a := b := self. a b c: d + super e f: (super g: 3) h. ^ #(-3 a #b (c) nil 'd' 4 at:put: +)")


def words_or_none(read, text):
    try:
        return read(text)
    except BadSource:
        return None


class PlainWordsTest(unittest.TestCase):
    def test_what_is_plain(self):
        for text in PLAIN:
            self.assertEqual(plain_words(text), parted(text), text)
            self.assertIsNotNone(plain_words(text), text)

    def test_as_the_words_that_are_found_sign_by_sign(self):
        chance = random.Random(11)
        plain = 0
        for _ in range(20000):
            text = ""
            for _ in range(chance.randint(1, 9)):
                text += chance.choice(PIECES) + chance.choice(("", " ", " "))
            found = plain_words(text)
            if found is not None:
                plain += 1
                self.assertEqual(found, words_or_none(parted, text), text)
            self.assertEqual(words_or_none(words_of, text), words_or_none(parted, text), text)
        self.assertGreater(plain, 4000)

    def test_wrong_places(self):
        for text, place in (("a 'b", 2), ("a @", 2), ("{ 'a'", 0), ("'a' }", 4), ("a _b", 2), ("a \"b", 2), ("'a''b", 0), ("'a' #'b", 4), ("#", 0), ("a % b", 2)):
            with self.assertRaises(BadSource) as caught:
                words_of(text)
            self.assertEqual(caught.exception.place, place, text)


class QuickTest(unittest.TestCase):
    def check(self, text):
        """Whether the text is read quickly, and if so, as it is read slowly."""
        words = words_or_none(words_of, text)
        if words is None:
            return False
        quick = Quick(words)
        try:
            tree = quick.read_method()
        except Unsure:
            return False
        slow = parsed_slowly(text, words, True)
        self.assertEqual(tree, slow.tree, text)
        fast = parsed_method(text)
        self.assertEqual((fast.tree, fast.keeps, fast.shallow, sorted(fast.free), sorted(set(fast.declared)), fast.literals),
                         (slow.tree, slow.keeps, slow.shallow, slow.free, slow.declared, slow.literals), text)
        self.assertEqual((slow.free, slow.declared, slow.literals, slow.shallow),
                         (free_names(tree), declared_names(tree), literal_trees(tree), depth_of(tree) <= 40))
        return True

    def test_plain_sources(self):
        for text in PLAIN:
            self.assertTrue(self.check(text), text)

    def test_what_trees_are_written_as(self):
        maker = Maker(random.Random(12))
        found = 0
        for _ in range(600):
            tree = maker.method()
            if is_tree(tree):
                self.assertTrue(self.check(write_method(tree)))
                found += 1
        self.assertGreater(found, 300)

    def test_what_the_grammar_allows_and_what_not(self):
        chance = random.Random(13)
        names = ("a", "b", "c", "self", "super", "nil", "Foo")
        read = 0
        for number in range(1500):
            words = ["m"]
            prefix = Prefix()
            prefix.go_on("NAME")
            for _ in range(chance.randint(0, 20)):
                can_come = prefix.following()
                word = chance.choice(can_come if can_come and chance.random() < 0.99 else WORDS)
                word = "NAME" if word == "UN" else word
                words.append({"NAME": chance.choice(names + (f"n{number}", f"k{len(words)}") * 6), "INT": "7", "OP": "+", "KW": "k:"}.get(word, word))
                if not prefix.go_on(word):
                    break
            read += self.check(" ".join(words))
        self.assertGreater(read, 60)

    def test_strings_that_look_like_signs(self):
        for text, place in (("m '|' a '|' ^ a", 8), ("m ^ [:x '|' 3]", 8), ("m ^ (3 ')'", 7), ("m ^ 3 ';' foo", 6), ("m a ':=' 3", 4), ("m ^ [3 ']'", 7), ("m '^' 3", 6),
                            ("m ^ [':' x | 3]", 11), ("m ^ #(3 ')'", 11), ("m 3 '.' 4", 4), ("m ^ 3 #+ 4", 6), ("m #| a | 3", 2)):
            with self.assertRaises(BadSource) as caught:
                read_method(text)
            self.assertFalse(self.check(text))
            self.assertEqual(caught.exception.place, place, text)

    def test_what_is_too_deep_for_it(self):
        for many in (5, 39, 40, 41, 300, 900):
            self.assertEqual(read_method("m ^ " + "(" * many + "3" + ")" * many), ("method", "m", (), (), (("return", ("int", 3)),)))
        for many in (37, 38, 39, 390):
            text = "m " + "a := " * many + "3"
            if many < 39:
                self.assertEqual(depth_of(read_method(text)), many + 2)
            else:
                with self.assertRaises(TooMany):
                    read_method(text)

    def test_where_depth_ends(self):
        for read, start, most in ((read_method, "m ^ 3", 37), (read_body, "^ 3", 37), (read_body, "3", 38), (read_method, "m 3", 38)):
            self.assertEqual(depth_of(read(start + " foo" * most)), 40)
            with self.assertRaises(TooMany):
                read(start + " foo" * (most + 1))
        self.assertIs(parsed_method(deep("m ^ 3")).shallow, False)
        self.assertIs(parsed_body("').]).]' foo" + " foo" * 40).shallow, False)
        self.assertIs(parsed_body("3. " * 60).shallow, True)
        self.assertIs(parsed_body("^ #" + "(" * 38 + ")" * 38).shallow, True)
        self.assertIs(parsed_body("^ #" + "(" * 39 + ")" * 39).shallow, False)


if __name__ == "__main__":
    unittest.main()
