"""Sources that have been read, with what is asked of them."""

from imagetalk.quick import Quick, Unsure
from imagetalk.reader import BODY_SELECTOR, Reader
from imagetalk.treeparts import DEEPEST, declared_names, depth_of, free_names, has_own_variables, literal_trees
from imagetalk.words import words_of


class Parsed:
    """The tree of a source, of any depth; the free names, each once, and those that are declared; its literals.

    keeps tells whether a block has variables of its own, shallow whether not too many trees lie within one another;
    text is the text of the tree when it has been asked for. A Quick that has read a source tells the same.
    """

    def __init__(self, tree, free, declared, literals, keeps, shallow):
        self.tree = tree
        self.free = free
        self.declared = declared
        self.literals = literals
        self.keeps = keeps
        self.shallow = shallow
        self.text = None


def parsed_method(source):
    """What is read of the source of a method, however deep it is."""
    return parsed_source(source, True)


def parsed_body(source):
    """What is read of a source without a pattern, however deep it is."""
    return parsed_source(source, False)


def parsed_source(source, with_pattern):
    """What is read of a source, quickly if it can be."""
    words = words_of(source)
    parsed = parsed_quickly(source, words, with_pattern)
    return parsed_slowly(source, words, with_pattern) if parsed is None else parsed


def parsed_quickly(source, words, with_pattern):
    """What is read of words, with places or without, by recursion; None if that cannot be or something bars it."""
    quick = Quick(words)
    try:
        tree = quick.read_method() if with_pattern else quick.read_body(BODY_SELECTOR, ())
    except Unsure:
        return None
    quick.tree = tree
    quick.shallow = surely_shallow(source, len(words) + 1, quick.longest) or depth_of(tree) <= DEEPEST
    return quick


def surely_shallow(source, many, longest):
    """Whether there are too few words for too many trees, in all or in a statement: each tree has one of its own."""
    if longest < DEEPEST:
        return True
    if "'" in source or "\"" in source:
        return False
    return many - source.count(")") - source.count("]") - source.count(".") <= DEEPEST


def parsed_slowly(source, words, with_pattern):
    """What is read of words by the reader that tells what bars them."""
    reader = Reader(words, len(source))
    tree = reader.read_pattern() if with_pattern else reader.read_method(BODY_SELECTOR, [])
    keeps = has_own_variables(tree)
    return Parsed(tree, free_names(tree), declared_names(tree), literal_trees(tree), keeps, depth_of(tree) <= DEEPEST)
