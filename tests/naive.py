"""Passes written down from point 36 and 37 by themselves: the leftmost first, from the beginning each time."""

PUSHES = ("self", "const", "int", "lit", "class", "temp", "field", "dup")
READS = {"settemp": "temp", "setfield": "field"}
ANSWERS = {"+": lambda a, b: a + b, "-": lambda a, b: a - b, "*": lambda a, b: a * b, "//": lambda a, b: a // b, "\\\\": lambda a, b: a % b,
           "<": lambda a, b: a < b, ">": lambda a, b: a > b, "<=": lambda a, b: a <= b, ">=": lambda a, b: a >= b, "=": lambda a, b: a == b}


def targets(codes):
    found = set()
    for code in codes:
        found.update(code[1:] if code[0] == "jump" else code[2:] if code[0] == "test" else ())
    return found


def turned(code, turn):
    if code[0] == "jump":
        return ("jump", turn(code[1]))
    return (*code[:2], turn(code[2]), turn(code[3])) if code[0] == "test" else code


def replaced(codes, place, many, new):
    """The codes with new ones in the place of so many; targets stay at what they meant."""
    shift = len(new) - many
    return [turned(code, lambda target: target if target <= place else target + shift) for code in codes[:place] + new + codes[place + many:]]


def folding(codes, place, barred):
    three = codes[place:place + 3]
    if [code[0] for code in three] != ["int", "int", "send"] or three[2][1] not in ANSWERS or barred & {place + 1, place + 2}:
        return None
    if three[1][1] == 0 and three[2][1] in ("//", "\\\\"):
        return None
    answer = ANSWERS[three[2][1]](three[0][1], three[1][1])
    if isinstance(answer, bool):
        return (3, [("const", str(answer).lower())])
    return (3, [("int", answer)]) if len(str(abs(answer))) <= 60 else None


def testing(codes, place, barred):
    two = codes[place:place + 2]
    if [code[0] for code in two] != ["const", "test"] or two[0][1] == "nil" or place + 1 in barred:
        return None
    return (2, [] if (two[0][1] == "true") == two[1][1] else [("jump", two[1][2])])


def peeping(codes, place, barred):
    one, two, three = (codes[place:place + 3] + [None, None])[:3]
    if two is None or place + 1 in barred:
        return None
    if one[0] in PUSHES and two == ("pop",):
        return (2, [])
    if one[0] in READS and two == one:
        return (2, [one])
    if one[0] in READS and two == ("pop",) and three == (READS[one[0]], *one[1:]) and place + 2 not in barred:
        return (3, [one])
    return None


def rewritten(codes, change):
    """The codes after a change wherever it can be made."""
    codes = list(codes)
    place = 0
    while place < len(codes):
        found = change(codes, place, targets(codes))
        if found is None:
            place += 1
        else:
            codes = replaced(codes, place, *found)
            place = 0
    return tuple(codes)
