"""Trees of methods to their texts."""

from imagetalk.names import OPERATORS, SPOKEN_WORDS, arity_of, is_keywords, is_name

# How tightly the parts of an expression hold together, the tightest first.
PRIMARY = 0
UNARY = 1
BINARY = 2
KEYWORD = 3
CASCADE = 4
SET = 5

NO_BLANK_BEHIND = ("(", "[", "#(", "^")
NO_BLANK_AHEAD = (")", "]", ".", ";")


def method_text(tree):
    """The text of a method."""
    _, selector, parameters, variables, statements = tree
    words = pattern_words(selector, parameters)
    body = body_words(variables, statements)
    if body and body[0].startswith("-"):
        # Directly behind the name with which each pattern ends the minus would be an operator.
        body = ["(", body[0], ")", *body[1:]]
    return joined([*words, *body])


def body_text(tree):
    """The text of a method without its pattern."""
    return joined(body_words(tree[3], tree[4]))


def joined(words):
    """The words with one blank between, but where none stands."""
    text = ""
    ahead = "("
    for word in words:
        if ahead not in NO_BLANK_BEHIND and word not in NO_BLANK_AHEAD:
            text += " "
        text += word
        ahead = word
    return text


def pattern_words(selector, parameters):
    """The words of the pattern."""
    if not is_keywords(selector):
        return [selector, *parameters]
    return paired(selector, [[name] for name in parameters])


def paired(selector, rows):
    """The keywords of a selector, each with the words behind it."""
    words = []
    for keyword, row in zip(selector[:-1].split(":"), rows):
        words.append(keyword + ":")
        words.extend(row)
    return words


def body_words(variables, statements):
    """The words of variables and statements."""
    words = ["|", *variables, "|"] if variables else []
    for number, tree in enumerate(statements):
        if number > 0:
            words.append(".")
        words.extend(tree_words(tree))
    return words


def level_of(tree):
    """How tightly a tree holds together."""
    if tree[0] == "set":
        return SET
    if tree[0] == "cascade":
        return CASCADE
    if tree[0] in ("send", "super"):
        return message_level(tree[-2])
    return PRIMARY


def message_level(selector):
    """How tightly a message with this selector holds together."""
    if is_keywords(selector):
        return KEYWORD
    return BINARY if arity_of(selector) == 1 else UNARY


def receiver_words(tree, selector):
    """The words of what a message is sent to."""
    most = UNARY if message_level(selector) == UNARY else BINARY
    return held_words(tree, most)


def held_words(tree, most):
    """The words of a tree, in parentheses if it does not hold together tightly enough."""
    words = tree_words(tree)
    return words if level_of(tree) <= most else ["(", *words, ")"]


def message_words(selector, arguments):
    """The words of a message, behind what it is sent to."""
    level = message_level(selector)
    if level == UNARY:
        return [selector]
    if level == BINARY:
        return [selector, *held_words(arguments[0], UNARY)]
    return paired(selector, [held_words(tree, BINARY) for tree in arguments])


def tree_words(tree):
    """The words of a tree, without parentheses around it."""
    kind = tree[0]
    if kind == "send":
        return [*receiver_words(tree[1], tree[2]), *message_words(tree[2], tree[3])]
    if kind == "super":
        return ["super", *message_words(tree[1], tree[2])]
    if kind == "cascade":
        return cascade_words(tree)
    if kind == "set":
        return [tree[1], ":=", *tree_words(tree[2])]
    if kind == "return":
        return ["^", *tree_words(tree[1])]
    if kind == "block":
        return block_words(tree)
    if kind == "arr":
        return ["#(", *item_words(tree[1]), ")"]
    if kind == "sym":
        return ["#" + symbol_word(tree[1])]
    return [leaf_word(tree)]


def leaf_word(tree):
    """The word of an integer, a string or a name."""
    if tree[0] == "int":
        return str(tree[1])
    return quoted(tree[1]) if tree[0] == "str" else tree[1]


def quoted(text):
    """The string with this text."""
    return "'" + text.replace("'", "''") + "'"


def symbol_word(text):
    """The symbol with this text, without its `#`."""
    return text if is_name(text) or is_keywords(text) or text in OPERATORS else quoted(text)


def item_words(items):
    """The words of the items of an array."""
    words = []
    for tree in items:
        if tree[0] == "arr":
            words.extend(["(", *item_words(tree[1]), ")"])
        elif tree[0] == "sym":
            words.append(item_symbol(tree[1]))
        else:
            words.append(leaf_word(tree))
    return words


def item_symbol(text):
    """A symbol in an array: without `#`, if that would be read as one."""
    word = symbol_word(text)
    return "#" + word if word.startswith("'") or text in SPOKEN_WORDS else word


def cascade_words(tree):
    """The words of a cascade."""
    words = receiver_words(tree[1], tree[2][0][0])
    for number, (selector, arguments) in enumerate(tree[2]):
        if number > 0:
            words.append(";")
        words.extend(message_words(selector, arguments))
    return words


def block_words(tree):
    """The words of a block."""
    _, parameters, variables, statements = tree
    words = ["[", *[":" + name for name in parameters]]
    if parameters and (variables or statements):
        words.append("|")
    return [*words, *body_words(variables, statements), "]"]
