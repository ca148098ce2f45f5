"""What ways through codes have written, read and come to."""

from imagetalk.judged import checked_ground
from imagetalk.soundness import ENDS, heights_on, next_heights, places_of


def surely_set(program, name, made):
    """For each body the tuple, for each code, of the variables that every way to it has written."""
    ground = checked_ground(program, name, made)
    return [tuple([variables_in(bits) for bits in row]) for row in all_written(made, ground)]


def unset_reads(program, name, made):
    """The reads of own variables to which some way comes without a write, each as (body, place, variable)."""
    ground = checked_ground(program, name, made)
    places = places_of(made)
    found = []
    for number, row in enumerate(all_written(made, ground)):
        for place, code in enumerate(places[number].body[2]):
            if row[place] is not None and code[:2] == ("temp", 0) and not has_bit(row[place], code[2]):
                found.append((number, place, code[2]))
    return found


def ways_out(program, name, made):
    """The codes that can be come to and end the activation, each as (body, place)."""
    ground = checked_ground(program, name, made)
    places = places_of(made)
    found = []
    for number, row in enumerate(heights_on(made, ground)):
        for place, code in enumerate(places[number].body[2]):
            if row[place] is not None and code[0] in ENDS:
                found.append((number, place))
    return found


def high_most(program, name, made):
    """The greatest height of all."""
    ground = checked_ground(program, name, made)
    return max([height for row in heights_on(made, ground) for height in row if height is not None])


def has_bit(bits, place):
    """Whether a variable is among those of which these are the bits."""
    return bits >> place & 1 == 1


def variables_in(bits):
    """The ascending tuple of the variables of which these are the bits, None where nothing comes."""
    if bits is None:
        return None
    return tuple([place for place in range(bits.bit_length()) if has_bit(bits, place)])


def all_written(made, ground):
    """For each body the list of the bits of the variables that every way to a code has written."""
    heights_on(made, ground)
    return [written_in(place.body) for place in places_of(made)]


def written_in(body):
    """As all_written, for one body."""
    codes = body[2]
    written = [None] * len(codes)
    written[0] = (1 << body[0]) - 1
    waiting = [0]
    while waiting:
        number = waiting.pop()
        code = codes[number]
        bits = written[number]
        if code[:2] == ("settemp", 0):
            bits |= 1 << code[2]
        for to, _ in next_heights(number, code, 0):
            joined = bits if written[to] is None else written[to] & bits
            if joined != written[to]:
                written[to] = joined
                waiting.append(to)
    return written
