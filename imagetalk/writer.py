"""Trees of methods to their texts."""

from imagetalk.names import OPERATORS, SPOKEN_WORDS, is_keywords, is_name

# How tightly the parts of an expression hold together, the tightest first.
PRIMARY = 0
UNARY = 1
BINARY = 2
KEYWORD = 3
CASCADE = 4
SET = 5


def method_text(tree):
    """The text of a method."""
    _, selector, parameters, variables, statements = tree
    pattern = paired(selector, parameters) if parameters else selector
    text = statements_text(variables, statements)
    if text.startswith("-"):
        # Directly behind the name with which each pattern ends the minus would be an operator.
        end = digits_end(text)
        text = f"({text[:end]}){text[end:]}"
    return f"{pattern} {text}" if text else pattern


def digits_end(text):
    """Where the integer ends with which a text begins."""
    end = 1
    while end < len(text) and text[end].isdigit():
        end += 1
    return end


def body_text(tree):
    """The text of a method without its pattern."""
    return statements_text(tree[3], tree[4])


def statements_text(variables, statements):
    """The text of variables and statements."""
    text = ". ".join([tree_text(tree) for tree in statements])
    if not variables:
        return text
    names = " ".join(variables)
    return f"| {names} | {text}" if text else f"| {names} |"


def paired(selector, texts):
    """The words of a selector, each with the text behind it."""
    if not selector.endswith(":"):
        return f"{selector} {texts[0]}"
    return " ".join([f"{word}: {text}" for word, text in zip(selector[:-1].split(":"), texts)])


def level_of(tree):
    """How tightly a tree holds together."""
    kind = tree[0]
    if kind == "send" or kind == "super":
        return message_level(tree[-2])
    if kind == "set":
        return SET
    return CASCADE if kind == "cascade" else PRIMARY


def message_level(selector):
    """How tightly a message with this selector holds together."""
    if selector.endswith(":"):
        return KEYWORD
    return UNARY if selector[0].isalpha() else BINARY


def receiver_text(tree, selector):
    """The text of what a message is sent to."""
    return held_text(tree, UNARY if message_level(selector) == UNARY else BINARY)


def held_text(tree, most):
    """The text of a tree, in parentheses if it does not hold together tightly enough."""
    text = tree_text(tree)
    return text if level_of(tree) <= most else f"({text})"


def message_text(selector, arguments):
    """The text of a message, behind what it is sent to."""
    if not arguments:
        return selector
    most = BINARY if message_level(selector) == KEYWORD else UNARY
    return paired(selector, [held_text(tree, most) for tree in arguments])


def tree_text(tree):
    """The text of a tree, without parentheses around it."""
    kind = tree[0]
    if kind == "var":
        return tree[1]
    if kind == "send":
        return f"{receiver_text(tree[1], tree[2])} {message_text(tree[2], tree[3])}"
    if kind == "super":
        return f"super {message_text(tree[1], tree[2])}"
    if kind == "cascade":
        messages = "; ".join([message_text(selector, arguments) for selector, arguments in tree[2]])
        return f"{receiver_text(tree[1], tree[2][0][0])} {messages}"
    if kind == "set":
        return f"{tree[1]} := {tree_text(tree[2])}"
    if kind == "return":
        return "^" + tree_text(tree[1])
    return block_text(tree) if kind == "block" else literal_text(tree)


def literal_text(tree):
    """The text of a literal."""
    if tree[0] == "int":
        return str(tree[1])
    if tree[0] == "str":
        return quoted(tree[1])
    return "#" + (symbol_word(tree[1]) if tree[0] == "sym" else items_text(tree[1]))


def quoted(text):
    """The string with this text."""
    return "'" + text.replace("'", "''") + "'"


def symbol_word(text):
    """The symbol with this text, without its `#`."""
    return text if is_name(text) or is_keywords(text) or text in OPERATORS else quoted(text)


def items_text(items):
    """The text of an array, without its `#`."""
    return "(" + " ".join([item_text(tree) for tree in items]) + ")"


def item_text(tree):
    """The text of an item of an array: of a symbol without `#`, if that would be read as one."""
    if tree[0] == "arr":
        return items_text(tree[1])
    if tree[0] != "sym":
        return tree_text(tree)
    word = symbol_word(tree[1])
    return "#" + word if word.startswith("'") or word in SPOKEN_WORDS else word


def block_text(tree):
    """The text of a block."""
    _, parameters, variables, statements = tree
    text = statements_text(variables, statements)
    if not parameters:
        return f"[{text}]"
    names = " ".join([":" + name for name in parameters])
    return f"[{names} | {text}]" if text else f"[{names}]"
