"""What is told of values."""

from imagetalk.errors import TooMany
from imagetalk.things import Kind, Thing
from imagetalk.writer import quoted, symbol_word

LONGEST_TOLD = 2000
DEEPEST_TOLD = 3
DEEPEST_VALUE = 5
MOST_TREES = 4000


def told(value):
    """What is told of a value."""
    text = told_at(value, 0, LONGEST_TOLD)
    return text if len(text) <= LONGEST_TOLD else text[:LONGEST_TOLD - 2] + ".."


def told_at(value, depth, room):
    """What is told of a value within so many Arrays, or a beginning of it for which there is no room."""
    if not isinstance(value, Thing):
        return spoken(value) if value is None or isinstance(value, bool) else str(value)
    name = value.kind.name
    if name == "String":
        return quoted(value.data)
    if name == "Symbol":
        return "#" + symbol_word(value.data)
    if name == "Array":
        return ".." if depth == DEEPEST_TOLD else "#(" + items_told(value.data, depth + 1, room) + ")"
    if isinstance(value.data, Kind):
        return value.data.name
    return ("an " if name[0] in "AEIOU" else "a ") + name


def spoken(value):
    """The word for nil, true or false."""
    if value is None:
        return "nil"
    return "true" if value else "false"


def items_told(items, depth, room):
    """As told_at, for the items of an Array, with one blank between."""
    texts = []
    length = 0
    for item in items:
        texts.append(told_at(item, depth, room - length))
        length += len(texts[-1]) + 1
        if length > room:
            break
    return " ".join(texts)


def value_tree(value):
    """The tree of a value."""
    counter = TreeCounter()
    return counter.told_tree(value, 0)


class TreeCounter:
    """Makes trees of values, as long as there are not too many."""

    def __init__(self):
        self.many = 0

    def told_tree(self, value, depth):
        """The tree of a value that lies within so many Arrays and objects."""
        self.many += 1
        if self.many > MOST_TREES:
            raise TooMany("too many trees")
        if not isinstance(value, Thing):
            return ("var", spoken(value)) if value is None or isinstance(value, bool) else ("int", value)
        if value.is_a("String") or value.is_a("Symbol"):
            return ("str" if value.is_a("String") else "sym", value.data)
        if isinstance(value.data, Kind):
            return ("var", value.data.name)
        if depth == DEEPEST_VALUE:
            return ("var", "nil")
        if value.is_a("Array"):
            return ("arr", self.told_trees(value.data, depth + 1))
        return ("object", value.kind.name, self.told_trees(value.parts, depth + 1))

    def told_trees(self, values, depth):
        """The trees of several values."""
        return tuple([self.told_tree(value, depth) for value in values])
