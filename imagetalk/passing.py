"""The passes over a body, which has been judged."""

from imagetalk.soundness import next_heights
from imagetalk.tape import Tape, targets_of, with_targets
from imagetalk.treeform import is_short_integer

FOLDED = ("+", "-", "*", "//", "\\\\", "<", ">", "<=", ">=", "=")
TRUTHS = {"true": True, "false": False}
LEAVE_ONE = ("self", "const", "int", "lit", "class", "temp", "field", "dup")
READS = {"settemp": "temp", "setfield": "field"}


def come_to(codes):
    """The places that can be come to, as keys."""
    found = {0: True}
    waiting = [0]
    while waiting:
        number = waiting.pop()
        for to, _ in next_heights(number, codes[number], 0):
            if to not in found:
                found[to] = True
                waiting.append(to)
    return found


def trim(body):
    """Leaves out the codes that cannot be come to, and the blocks that no other code names."""
    parameters, variables, codes, blocks = body
    found = sorted(come_to(codes))
    turned = {place: number for number, place in enumerate(found)}
    kept = [with_targets(codes[place], turned) for place in found]
    named = sorted({code[1] for code in kept if code[0] == "block"})
    numbers = {block: number for number, block in enumerate(named)}
    kept = [("block", numbers[code[1]]) if code[0] == "block" else code for code in kept]
    return (parameters, variables, tuple(kept), tuple([blocks[block] for block in named]))


def again(change, thing):
    """What comes when a thing is changed again and again, until nothing changes."""
    changed = change(thing)
    while changed != thing:
        thing = changed
        changed = change(thing)
    return thing


def thread(body):
    """Targets become those of the jumps at which they lie."""
    return again(thread_once, body)


def thread_once(body):
    """One round of thread."""
    parameters, variables, codes, blocks = body
    ends = {}
    for code in codes:
        for target in targets_of(code):
            put_ends(codes, target, ends)
    tape = Tape([with_targets(code, ends) for code in codes])
    for place in reversed(range(len(codes))):
        if tape.codes[place] == ("jump", place + 1):
            tape.swap(place, 1, [])
    return trim((parameters, variables, tape.result(), blocks))


def put_ends(codes, target, ends):
    """Finds where one comes from a target, from jump to jump, for it and all targets on the way."""
    way = []
    places = {}
    while target not in ends and target not in places and target < len(codes) and codes[target][0] == "jump":
        places[target] = len(way)
        way.append(target)
        target = codes[target][1]
    if target in places:
        # The jumps go round: for each one in the ring the one ahead of it is the last that has not been gone to.
        begin = places[target]
        for number in range(begin, len(way)):
            ends[way[number]] = way[number - 1] if number > begin else way[-1]
        way = way[:begin]
    end = ends.get(target, target)
    for place in way:
        ends[place] = end


def rewritten(codes, change):
    """Codes after a change wherever it can be made, the leftmost first; it tells from where on one looks anew."""
    tape = Tape(codes)
    place = 0
    while place < len(tape.codes):
        place = change(tape, place)
    return tape.result()


def fold(body):
    """Messages between integers become what they answer."""
    return (*body[:2], rewritten(body[2], fold_at), body[3])


def fold_at(tape, place):
    """Folds two integers and a message that begin here."""
    three = tape.codes[place:place + 3]
    if [code[0] for code in three] != ["int", "int", "send"] or three[2][1] not in FOLDED:
        return place + 1
    code = folded_code(three[2][1], three[0][1], three[1][1])
    if code is None or tape.is_target(place + 1) or tape.is_target(place + 2):
        return place + 1
    tape.swap(place, 3, [code])
    return max(0, place - 2)


def folded_code(selector, number, other):
    """The code that leaves what a message between two integers answers, None if it has to stay."""
    value = None
    if selector == "+":
        value = number + other
    elif selector == "-":
        value = number - other
    elif selector == "*":
        value = number * other
    elif other != 0 and selector == "//":
        value = number // other
    elif other != 0 and selector == "\\\\":
        value = number % other
    if value is not None:
        return ("int", value) if is_short_integer(value) else None
    if selector in ("//", "\\\\"):
        return None
    return ("const", "true" if is_true(selector, number, other) else "false")


def is_true(selector, number, other):
    """What a message that compares two integers answers."""
    if selector == "<":
        return number < other
    if selector == ">":
        return number > other
    if selector == "<=":
        return number <= other
    return number >= other if selector == ">=" else number == other


def decide(body):
    """Tests of true and false become jumps or nothing."""
    return thread((*body[:2], rewritten(body[2], decide_at), body[3]))


def decide_at(tape, place):
    """Decides a test of true or false that begins here."""
    two = tape.codes[place:place + 2]
    if [code[0] for code in two] != ["const", "test"] or two[0][1] not in TRUTHS or tape.is_target(place + 1):
        return place + 1
    _, wanted, other, _ = two[1]
    codes = [] if TRUTHS[two[0][1]] == wanted else [("jump", other)]
    tape.swap(place, 2, codes)
    # A test further above may have been a target of this one alone.
    if min(targets_of(two[1])) <= min(tape.labels[place]):
        return 0
    return max(0, place - 1)


def peep(body):
    """Values that nothing needs are not left, and what was written is not written or read at once again."""
    return trim((*body[:2], rewritten(body[2], peep_at), body[3]))


def peep_at(tape, place):
    """Changes the codes that begin here."""
    one = tape.codes[place]
    two = tape.codes[place + 1:place + 2]
    three = tape.codes[place + 2:place + 3]
    if tape.is_target(place + 1):
        return place + 1
    if one[0] in LEAVE_ONE and two == [("pop",)]:
        tape.swap(place, 2, [])
    elif one[0] in READS and two == [one]:
        tape.swap(place, 2, [one])
    elif one[0] in READS and reads_back(one, two + three) and not tape.is_target(place + 2):
        tape.swap(place, 3, [one])
    else:
        return place + 1
    return max(0, place - 2)


def reads_back(write, codes):
    """Whether these take away what was written and read it."""
    return codes == [("pop",), (READS[write[0]], *write[1:])]


def tail_all(body):
    """Messages with whose answer a method ends become tails."""
    parameters, variables, codes, blocks = body
    changed = [tailed_code(codes, place) for place in range(len(codes))]
    return trim((parameters, variables, tuple(changed), blocks))


def tailed_code(codes, place):
    """The code at a place, a tail if an answer stands behind it."""
    code = codes[place]
    if code[0] in ("send", "super") and codes[place + 1:place + 2] == (("answer",),):
        return ("tail" + ("super" if code[0] == "super" else ""), *code[1:])
    return code
