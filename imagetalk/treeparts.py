"""What lies within a tree. Nothing here goes deeper by recursion: a source can hold a thousand trees in one another."""

from imagetalk.names import FIVE_WORDS

DEEPEST = 40


def parts_of(tree):
    """The trees directly within this one, in the order of the text."""
    kind = tree[0]
    if kind in ("return", "set"):
        return [tree[-1]]
    if kind in ("method", "block", "arr", "super"):
        return list(tree[-1])
    if kind == "send":
        return [tree[1], *tree[3]]
    if kind == "cascade":
        return [tree[1], *[part for _, arguments in tree[2] for part in arguments]]
    return []


def depth_of(tree):
    """How many trees lie within one another, this one among them."""
    depth = 0
    level = [tree]
    while level:
        depth += 1
        level = [part for above in level for part in parts_of(above)]
    return depth


def all_parts(tree):
    """The tree and all within it, in the order of the text, each one as (tree, names bound there, blocks around)."""
    rows = []
    waiting = [(tree, (), 0)]
    while waiting:
        part, bound, blocks = waiting.pop()
        below = blocks
        if part[0] in ("method", "block"):
            bound = (*bound, *part[-3], *part[-2])
            below = blocks + 1 if part[0] == "block" else blocks
        rows.append((part, bound, blocks))
        inner = [(found, bound, below) for found in parts_of(part)]
        inner.reverse()
        waiting.extend(inner)
    return rows


def free_names(tree):
    """The ascending list of the names that are read or set where they are not bound."""
    found = {}
    for part, bound, _ in all_parts(tree):
        if part[0] in ("var", "set") and part[1] not in FIVE_WORDS and part[1] not in bound:
            found[part[1]] = True
    return sorted(found)


def declared_names(tree):
    """The ascending list of the parameters and variables of a method and of its blocks."""
    found = {}
    for part, _, _ in all_parts(tree):
        if part[0] in ("method", "block"):
            for name in (*part[-3], *part[-2]):
                found[name] = True
    return sorted(found)


def named_words(tree):
    """The ascending list of the names that are read, set or declared anywhere in a method."""
    found = {name: True for name in declared_names(tree)}
    for part, _, _ in all_parts(tree):
        if part[0] in ("var", "set"):
            found[part[1]] = True
    return sorted(found)


def sent_selectors(tree):
    """The ascending list of the selectors of all messages in it."""
    found = {}
    for part, _, _ in all_parts(tree):
        if part[0] in ("send", "super"):
            found[part[-2]] = True
        elif part[0] == "cascade":
            for selector, _ in part[2]:
                found[selector] = True
    return sorted(found)


def has_own_variables(tree):
    """Whether a block in a method has variables of its own."""
    return any([part[0] == "block" and part[2] != () for part, _, _ in all_parts(tree)])


def literal_trees(tree):
    """The strings, symbols and arrays of a method, in the order of the text, like symbols once."""
    found = []
    symbols = {}
    waiting = [tree]
    while waiting:
        part = waiting.pop()
        if part[0] in ("str", "sym", "arr"):
            if part[0] != "sym" or part[1] not in symbols:
                found.append(part)
            if part[0] == "sym":
                symbols[part[1]] = True
        else:
            inner = parts_of(part)
            inner.reverse()
            waiting.extend(inner)
    return found
