"""Points 5 to 7 for many sources and trees, made by chance, always the same ones."""

import random
import unittest

from grammar import WORDS, Prefix
from treemaker import Maker

from imagetalk.errors import BadSource, BadTree
from imagetalk.parsing import parsed_method
from imagetalk.trees import is_tree, read_method, tree_size, write_method
from imagetalk.words import words_of
from imagetalk.writer import method_text


def alike(one, other):
    """Whether two things are equal and of the same kinds throughout."""
    if type(one) is not type(other):
        return False
    if isinstance(one, tuple):
        return len(one) == len(other) and all(alike(a, b) for a, b in zip(one, other))
    return one == other


def count_of(tree):
    """How many trees there are, counted by their kinds."""
    if not isinstance(tree, tuple):
        return 0
    lengths = {"int": 2, "str": 2, "sym": 2, "arr": 2, "var": 2, "set": 3, "send": 4, "super": 3, "cascade": 3, "block": 4,
               "return": 2, "method": 5}
    begins = len(tree) > 0 and isinstance(tree[0], str) and lengths.get(tree[0]) == len(tree)
    return begins + sum(count_of(part) for part in tree[1 if begins else 0:])


def read_or_none(text):
    try:
        return parsed_method(text).tree
    except BadSource:
        return None


class SourcesTest(unittest.TestCase):
    def written(self, words):
        """The text of these words, each name another one, and their places."""
        text, places = "", []
        for number, word in enumerate(words):
            places.append(len(text))
            text += {"NAME": f"n{number}", "INT": "7", "OP": "+", "KW": f"k{number}:"}.get(word, word) + " "
        return text, places

    def test_the_first_word_that_cannot_stand(self):
        chance = random.Random(4)
        whole = 0
        for _ in range(700):
            prefix = Prefix()
            words = ["NAME"]
            prefix.go_on("NAME")
            barred = False
            for _ in range(chance.randint(0, 22)):
                can_come = prefix.following()
                word = chance.choice(can_come if can_come and chance.random() < 0.94 else WORDS)
                words.append(chance.choice(("NAME", "NAME", "super")) if word == "UN" else word)
                if not prefix.go_on(words[-1]):
                    barred = True
                    break
            text, places = self.written(words)
            self.check(text, words, places, prefix, barred)
            whole += not barred and prefix.is_whole()
        self.assertGreater(whole, 50)

    def check(self, text, words, places, prefix, barred):
        expected = places[-1] if barred else len(text)
        if prefix.after_super:
            expected = places[-2] if barred else places[-1]
        if not barred and prefix.is_whole():
            self.assertTrue(is_tree(read_method(text)), text)
            return
        with self.assertRaises(BadSource) as caught:
            read_method(text)
        self.assertEqual(caught.exception.place, expected, text)


class TreesTest(unittest.TestCase):
    def test_what_is_a_tree_is_written_and_read_back(self):
        maker = Maker(random.Random(1))
        found = 0
        for _ in range(1500):
            tree = maker.method()
            if is_tree(tree):
                found += 1
                self.assertTrue(alike(read_method(write_method(tree)), tree), tree)
                self.assertEqual(tree_size(tree), count_of(tree), tree)
                self.check_parentheses(write_method(tree), tree)
        self.assertGreater(found, 700)

    def check_parentheses(self, text, tree):
        """Without any pair of its parentheses the text is read to another tree, or to none."""
        opened = []
        for kind, value, place in words_of(text):
            if kind == "sign" and value in ("(", "#("):
                opened.append((value, place))
            elif kind == "sign" and value == ")":
                sign, begin = opened.pop()
                if sign == "(" and "#(" not in [other for other, _ in opened]:
                    bare = text[:begin] + " " + text[begin + 1:place] + " " + text[place + 1:]
                    self.assertFalse(alike(read_or_none(bare), tree), text)

    def test_what_is_no_tree_comes_from_no_source(self):
        maker = Maker(random.Random(2))
        found = 0
        for _ in range(1500):
            tree = maker.spoilt(maker.method())
            if not is_tree(tree):
                with self.assertRaises(BadTree):
                    write_method(tree)
                try:
                    text = method_text(tree)
                except Exception:
                    continue
                found += 1
                self.assertFalse(alike(read_or_none(text), tree), tree)
        self.assertGreater(found, 300)


if __name__ == "__main__":
    unittest.main()
