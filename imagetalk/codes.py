"""Made methods: their form, and what lies within them."""

from imagetalk.errors import BadMade
from imagetalk.names import MOST_PARAMETERS, SPOKEN_WORDS, arity_of, is_class_word
from imagetalk.treeform import is_short_integer, kind_of, literal_fits
from imagetalk.treeparts import DEEPEST

MOST_VARIABLES = 1000
MOST_CODES = 4000
MOST_BLOCKS = 700
DEEPEST_BODIES = 40


def is_number(thing, most=None):
    """Whether it is an integer from 0 on, up to most if there is one."""
    if not isinstance(thing, int) or isinstance(thing, bool) or thing < 0:
        return False
    return most is None or thing <= most


def is_selector(thing):
    """Whether it is a selector of a message."""
    return arity_of(thing) is not None


def is_integer(thing):
    """Whether it is an integer that can be written as one word."""
    return is_short_integer(thing)


def is_class(thing):
    """Whether it is a name that a class can have."""
    return is_class_word(thing)


def is_spoken(thing):
    """Whether it is nil, true or false by its name."""
    return isinstance(thing, str) and thing in SPOKEN_WORDS


def is_truth(thing):
    """Whether it is True or False."""
    return isinstance(thing, bool)


# What stands behind the first word of each code.
PARTS = {
    "self": (),
    "const": (is_spoken,),
    "int": (is_integer,),
    "lit": (is_number,),
    "class": (is_class,),
    "temp": (is_number, is_number),
    "field": (is_number,),
    "block": (is_number,),
    "settemp": (is_number, is_number),
    "setfield": (is_number,),
    "pop": (),
    "dup": (),
    "send": (is_selector, is_number),
    "super": (is_selector, is_number),
    "jump": (is_number,),
    "test": (is_truth, is_number, is_number),
    "answer": (),
    "return": (),
    "tail": (is_selector, is_number),
    "tailsuper": (is_selector, is_number),
}


def is_code(thing):
    """Whether it has the form of a code."""
    if not isinstance(thing, tuple) or len(thing) == 0 or not isinstance(thing[0], str) or thing[0] not in PARTS:
        return False
    parts = PARTS[thing[0]]
    if len(thing) != len(parts) + 1:
        return False
    for place in range(len(parts)):
        fits = parts[place]
        if not fits(thing[place + 1]):
            return False
    return True


def is_literal(thing):
    """Whether it is the tree of a string, a symbol or an array as it can stand in a method."""
    return kind_of(thing) in ("str", "sym", "arr") and literal_fits(thing, DEEPEST - 1)


def head_fits(parameters, variables, codes, blocks):
    """Whether a body can have so many parameters, variables, codes and blocks."""
    if not is_number(parameters, MOST_PARAMETERS) or not is_number(variables, MOST_VARIABLES):
        return False
    if not is_number(codes, MOST_CODES) or not is_number(blocks, MOST_BLOCKS):
        return False
    return parameters <= variables and codes > 0


def is_body(thing, room):
    """Whether it has the form of a body, with no more bodies in one another than there is room for."""
    if room <= 0 or not isinstance(thing, tuple) or len(thing) != 4:
        return False
    parameters, variables, codes, blocks = thing
    if not isinstance(codes, tuple) or not isinstance(blocks, tuple):
        return False
    if not head_fits(parameters, variables, len(codes), len(blocks)):
        return False
    if not all([is_code(code) for code in codes]):
        return False
    return all([is_body(block, room - 1) for block in blocks])


def is_made(thing):
    """Whether any object has the form of a made method."""
    if not isinstance(thing, tuple) or len(thing) != 3:
        return False
    selector, literals, body = thing
    if not is_selector(selector) or not isinstance(literals, tuple):
        return False
    return all([is_literal(literal) for literal in literals]) and is_body(body, DEEPEST_BODIES)


def check_made(thing):
    """Refuses what has not the form of a made method."""
    if not is_made(thing):
        raise BadMade("not a made method")


def codes_many(made):
    """How many codes a made method and all its blocks have."""
    check_made(made)
    return sum([len(body[2]) for body in all_bodies(made[2])])


def bodies_of(made):
    """The bodies of a made method: its own, and behind each one those of its blocks."""
    check_made(made)
    return all_bodies(made[2])


def all_bodies(body):
    """A body, and behind it those of its blocks with all that are in them."""
    bodies = [body]
    for block in body[3]:
        bodies.extend(all_bodies(block))
    return bodies
