"""Whether any object has the form of a tree of a method."""

from imagetalk.names import MOST_PARAMETERS, SPOKEN_WORDS
from imagetalk.names import arity_of, is_local_word, is_name, is_text
from imagetalk.treeparts import DEEPEST

SHAPES = {"int": 2, "str": 2, "sym": 2, "arr": 2, "var": 2, "set": 3, "send": 4, "super": 3, "cascade": 3,
          "block": 4, "return": 2, "method": 5}


def kind_of(thing):
    """The kind of what has the outer form of a tree, None for all else."""
    if not isinstance(thing, tuple) or len(thing) == 0 or not isinstance(thing[0], str):
        return None
    return thing[0] if SHAPES.get(thing[0]) == len(thing) else None


def is_method_form(thing):
    """Whether it is the tree of a method."""
    if kind_of(thing) != "method":
        return False
    _, selector, parameters, variables, statements = thing
    if not isinstance(parameters, tuple) or len(parameters) != arity_of(selector):
        return False
    return body_fits(parameters, variables, statements, {}, DEEPEST - 1)


def body_fits(parameters, variables, statements, known, room):
    """Whether these stand well in a method or block; known tells of names around, room how many trees may nest."""
    for thing in (parameters, variables, statements):
        if not isinstance(thing, tuple):
            return False
    if len(parameters) > MOST_PARAMETERS:
        return False
    known = {name: known[name] for name in known}
    if not declare_all(parameters, known, True) or not declare_all(variables, known, False):
        return False
    if not all([tree_fits(tree, known, room) for tree in statements[:-1]]):
        return False
    return all([last_fits(tree, known, room) for tree in statements[-1:]])


def declare_all(names, known, as_parameter):
    """Puts names among those that are known, and tells whether all of them can be."""
    for name in names:
        if not is_local_word(name) or name in known:
            return False
        known[name] = as_parameter
    return True


def last_fits(tree, known, room):
    """Whether it is an expression or a return of one."""
    if kind_of(tree) == "return":
        return tree_fits(tree[1], known, room - 1)
    return tree_fits(tree, known, room)


def tree_fits(tree, known, room):
    """Whether it is the tree of an expression, with no more trees in one another than there is room for."""
    kind = kind_of(tree)
    if room <= 0:
        return False
    if kind in ("int", "str", "sym", "arr"):
        return literal_fits(tree, room)
    if kind == "var":
        return is_name(tree[1]) and tree[1] != "super"
    if kind == "set":
        return can_be_set(tree[1], known) and tree_fits(tree[2], known, room - 1)
    if kind == "send":
        return tree_fits(tree[1], known, room - 1) and message_fits(tree[2:], known, room - 1)
    if kind == "super":
        return message_fits(tree[1:], known, room - 1)
    if kind == "cascade":
        return tree_fits(tree[1], known, room - 1) and messages_fit(tree[2], known, room - 1)
    return kind == "block" and body_fits(tree[1], tree[2], tree[3], known, room - 1)


def literal_fits(tree, room):
    """Whether it is a literal, of these kinds."""
    kind = kind_of(tree)
    if room <= 0:
        return False
    if kind == "int":
        return is_short_integer(tree[1])
    if kind in ("str", "sym"):
        return is_text(tree[1])
    return kind == "arr" and items_fit(tree[1], room - 1)


def is_short_integer(thing):
    """Whether it is an integer of at most sixty digits."""
    return isinstance(thing, int) and not isinstance(thing, bool) and abs(thing) < 10 ** 60


def items_fit(items, room):
    """Whether these are items of an array."""
    if not isinstance(items, tuple):
        return False
    return all([item_fits(item, room) for item in items])


def item_fits(item, room):
    """Whether it is an item of an array."""
    if kind_of(item) == "var":
        return room > 0 and item[1] in SPOKEN_WORDS
    return literal_fits(item, room)


def can_be_set(name, known):
    """Whether a name can stand ahead of a `:=` where these names are known."""
    return is_local_word(name) and not known.get(name, False)


def message_fits(message, known, room):
    """Whether it is a tuple of a selector and as many arguments as it wants."""
    if not isinstance(message, tuple) or len(message) != 2:
        return False
    selector, arguments = message
    if not isinstance(arguments, tuple) or arity_of(selector) != len(arguments):
        return False
    return all([tree_fits(tree, known, room) for tree in arguments])


def messages_fit(messages, known, room):
    """Whether these are the messages of a cascade."""
    if not isinstance(messages, tuple) or len(messages) < 2:
        return False
    return all([message_fits(message, known, room) for message in messages])
