"""Texts of methods to trees, and trees to texts."""

from imagetalk.errors import BadTree, TooMany
from imagetalk.parsing import parsed_body, parsed_method
from imagetalk.reader import BODY_SELECTOR
from imagetalk.treeform import is_method_form
from imagetalk.treeparts import all_parts
from imagetalk.writer import body_text, method_text


def read_method(source):
    """The tree of a method."""
    parsed = parsed_method(source)
    check_depth(parsed)
    return parsed.tree


def read_body(source):
    """The tree of a source without a pattern."""
    parsed = parsed_body(source)
    check_depth(parsed)
    return parsed.tree


def check_depth(parsed):
    """Refuses a source in which too many trees lie within one another."""
    if not parsed.shallow:
        raise TooMany("too many trees within one another")


def write_method(tree):
    """The text of a method."""
    check_tree(tree)
    return method_text(tree)


def write_body(tree):
    """The text of a method that was read without a pattern."""
    check_tree(tree)
    if tree[1] != BODY_SELECTOR:
        raise BadTree("not a tree of a source without a pattern")
    return body_text(tree)


def is_tree(thing):
    """Whether any object is the tree of a method."""
    return is_method_form(thing)


def check_tree(thing):
    """Refuses what is no tree of a method."""
    if not is_method_form(thing):
        raise BadTree("not a tree of a method")


def tree_size(tree):
    """How many trees there are in the tree of a method, itself among them."""
    check_tree(tree)
    return len(all_parts(tree))
