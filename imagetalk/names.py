"""What names, selectors and texts look like, apart from any source."""

LONGEST_NAME = 40
LONGEST_SELECTOR = 100
MOST_PARAMETERS = 20
MOST_FIELDS = 8
OPERATORS = ("+", "-", "*", "//", "\\\\", "<", ">", "<=", ">=", "=", "==", "~=", "~~", ",")
FIVE_WORDS = ("self", "super", "nil", "true", "false")

# The words that stand for themselves in arrays, where other names are symbols.
SPOKEN_WORDS = ("nil", "true", "false")


def is_text(thing):
    """Whether it is a str of the characters that a source may have, of any length."""
    if not isinstance(thing, str):
        return False
    bare = thing.replace("\n", "")
    return bare.isascii() and bare.isprintable()


def is_name(thing):
    """Whether it is a str that is a name."""
    if not isinstance(thing, str) or len(thing) > LONGEST_NAME:
        return False
    return thing.isascii() and thing.isalnum() and thing[0].isalpha()


def is_class_word(thing):
    """Whether it is a name that begins with a capital letter."""
    return is_name(thing) and thing[0].isupper()


def is_local_word(thing):
    """Whether it is a name that a parameter, a variable or a field can have."""
    return is_name(thing) and thing[0].islower() and thing not in FIVE_WORDS


def is_keywords(thing):
    """Whether it is a str of one or more keywords, one directly behind the other."""
    if not isinstance(thing, str) or not thing.endswith(":"):
        return False
    return all([is_name(part) for part in thing[:-1].split(":")])


def arity_of(thing):
    """How many arguments a message with this selector has, None for what is no selector of a message."""
    if is_name(thing):
        return 0
    if not is_keywords(thing):
        return 1 if isinstance(thing, str) and thing in OPERATORS else None
    return thing.count(":") if len(thing) <= LONGEST_SELECTOR else None


def is_method_selector(thing):
    """Whether it can stand as the selector of a method, which has only so many parameters."""
    arity = arity_of(thing)
    return arity is not None and arity <= MOST_PARAMETERS


def are_fields(thing):
    """Whether it is a tuple that can be the own fields of a class."""
    if not isinstance(thing, tuple) or len(thing) > MOST_FIELDS:
        return False
    if len(thing) == 0:
        return True
    if not all([is_local_word(field) for field in thing]):
        return False
    return len({field for field in thing}) == len(thing)
