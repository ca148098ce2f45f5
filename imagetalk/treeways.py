"""Questions about trees of methods, and their names changed."""

from imagetalk.errors import BadName, Clash, NoName
from imagetalk.names import is_local_word
from imagetalk.treeparts import all_parts, declared_names, free_names, named_words, sent_selectors
from imagetalk.trees import check_tree


def names_free(tree):
    """The ascending list of the names that are read or set where they are no parameters or variables."""
    check_tree(tree)
    return free_names(tree)


def selectors_of(tree):
    """The ascending list of the selectors of all messages in it."""
    check_tree(tree)
    return sent_selectors(tree)


def renamed(tree, name, other):
    """The tree in which the parameters and variables with one name have another one."""
    check_tree(tree)
    if name not in declared_names(tree):
        raise NoName("no parameter or variable of the tree")
    if not is_local_word(other):
        raise BadName("not a name that a parameter can have")
    if other in named_words(tree):
        raise Clash("the other name stands in the tree already")
    return with_name(tree, name, other, False)


def with_name(tree, name, other, bound):
    """The tree with the other name where the name is bound; bound tells whether it is by what is around."""
    kind = tree[0]
    if kind == "var":
        return (kind, other) if bound and tree[1] == name else tree
    if kind in ("method", "block"):
        return body_with_name(tree, name, other, bound)
    if kind == "set":
        target = other if bound and tree[1] == name else tree[1]
        return (kind, target, with_name(tree[2], name, other, bound))
    if kind == "return":
        return (kind, with_name(tree[1], name, other, bound))
    if kind == "send":
        subject = with_name(tree[1], name, other, bound)
        return (kind, subject, tree[2], all_with_name(tree[3], name, other, bound))
    if kind == "super":
        return (kind, tree[1], all_with_name(tree[2], name, other, bound))
    if kind == "cascade":
        messages = [(selector, all_with_name(trees, name, other, bound)) for selector, trees in tree[2]]
        return (kind, with_name(tree[1], name, other, bound), tuple(messages))
    return tree


def all_with_name(trees, name, other, bound):
    """The trees with the other name."""
    return tuple([with_name(tree, name, other, bound) for tree in trees])


def body_with_name(tree, name, other, bound):
    """The method or block with the other name."""
    parameters, variables, statements = tree[-3:]
    inside = bound or name in parameters or name in variables
    changed = all_with_name(statements, name, other, inside)
    return (*tree[:-3], replaced(parameters, name, other), replaced(variables, name, other), changed)


def replaced(names, name, other):
    """The names with the other one in the place of the one."""
    return tuple([other if found == name else found for found in names])


def blocks_of(tree):
    """The blocks, in the order of their `[`, each as (blocks around it, parameters, whether it has a return)."""
    check_tree(tree)
    rows = []
    for part, _, blocks in all_parts(tree):
        if part[0] == "block":
            has = any([below[0] == "return" for below in part[3]])
            rows.append((blocks, len(part[1]), has))
    return rows
