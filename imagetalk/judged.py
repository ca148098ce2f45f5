"""Whether made methods are sound for a class of a program."""

from imagetalk.classes import book_with
from imagetalk.codes import check_made, is_made, is_number
from imagetalk.errors import BadCodes
from imagetalk.names import arity_of
from imagetalk.soundness import Ground, heights_on, is_right, next_heights, places_of

MOST_PLACES = 20


def ground_of(book, name):
    """What the methods of a class can name."""
    return Ground(len(book.fields_of_class(name)), book.parents)


def checked_ground(program, name, made):
    """What the methods of a class can name, where all three are as they have to be."""
    book = book_with(program, name)
    check_made(made)
    return ground_of(book, name)


def heights(program, name, made):
    """For each body the tuple of how many values the stack has ahead of each code."""
    ground = checked_ground(program, name, made)
    return [tuple(row) for row in heights_on(made, ground)]


def height_paper(program, name, made):
    """For each body the list of the places that can be come to, each as (place, height)."""
    ground = checked_ground(program, name, made)
    rows = heights_on(made, ground)
    return [[(place, height) for place, height in enumerate(row) if height is not None] for row in rows]


def height_paper_holds(program, name, made, thing):
    """Whether any object is a height paper."""
    ground = checked_ground(program, name, made)
    places = places_of(made)
    if not isinstance(thing, list) or len(thing) != len(places):
        return False
    for row, place in zip(thing, places):
        if not row_holds(row, place, ground):
            return False
    return True


def row_holds(row, place, ground):
    """Whether any object tells the heights of a body."""
    if not isinstance(row, list) or not all([is_pair(pair) for pair in row]):
        return False
    told = {number: height for number, height in row}
    codes = place.body[2]
    if len(told) != len(row) or told.get(0) != 0:
        return False
    for number, height in row:
        if number >= len(codes):
            return False
        ways = next_heights(number, codes[number], height)
        if not is_right(codes[number], height, ways, place, ground):
            return False
        if not all([told.get(to) == other for to, other in ways]):
            return False
    return True


def is_pair(thing):
    """Whether it is a tuple of two integers from 0 on."""
    return isinstance(thing, tuple) and len(thing) == 2 and is_number(thing[0]) and is_number(thing[1])


def is_sound(program, name, thing):
    """Whether any object is a made method that is sound for a class."""
    book = book_with(program, name)
    return is_sound_for(book, name, thing)


def is_sound_for(book, name, thing):
    """As is_sound, for a program that has been read."""
    if not is_made(thing) or thing[2][0] != arity_of(thing[0]):
        return False
    try:
        heights_on(thing, ground_of(book, name))
    except BadCodes:
        return False
    return True


def can_have_places(book, thing):
    """Whether any object is a list of made methods for classes of the program's own that have such methods."""
    if not isinstance(thing, list) or len(thing) > MOST_PLACES:
        return False
    found = {}
    for row in thing:
        if not isinstance(row, tuple) or len(row) != 2 or not can_have(book, row[0], row[1]):
            return False
        found[(row[0], row[1][0])] = True
    return len(found) == len(thing)


def can_have(book, name, made):
    """Whether a class of the program's own has a method that a made method can stand in the place of."""
    if not book.has_own_class(name) or not is_sound_for(book, name, made):
        return False
    return made[0] in book.methods[name]
