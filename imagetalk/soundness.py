"""How high the stack is ahead of each code of a made method, and what is wrong with codes."""

from heapq import heappop, heappush

from imagetalk.errors import BadCodes
from imagetalk.names import arity_of

# How many values a code takes, and how many it leaves; messages and test are told by functions.
TAKES = {"settemp": 1, "setfield": 1, "pop": 1, "dup": 1, "test": 1, "answer": 1, "return": 1}
LEAVES = {"self": 1, "const": 1, "int": 1, "lit": 1, "class": 1, "temp": 1, "field": 1, "block": 1, "settemp": 1,
          "setfield": 1, "dup": 2, "send": 1, "super": 1}
MESSAGES = ("send", "super", "tail", "tailsuper")
ENDS = ("answer", "return", "tail", "tailsuper")


class Ground:
    """What a made method can name: so many fields, and these classes; None for all that there could be."""

    def __init__(self, fields, classes):
        self.many_fields = fields
        self.classes = classes


class Place:
    """A body among others: those around it, from the method's on, and how many literals the method has."""

    def __init__(self, body, around, literals):
        self.body = body
        self.chain = (*around, body)
        self.literals = literals


def places_of(made):
    """All bodies of a made method as Places, in the order of bodies_of."""
    found = []
    put_places(made[2], (), len(made[1]), found)
    return found


def put_places(body, around, literals, found):
    """Puts a body and all within it behind those that were found."""
    place = Place(body, around, literals)
    found.append(place)
    for block in body[3]:
        put_places(block, place.chain, literals, found)


def taken_by(code):
    """How many values a code takes."""
    return code[2] + 1 if code[0] in MESSAGES else TAKES.get(code[0], 0)


def next_heights(place, code, height):
    """Where codes go on behind this one, each as (place, height)."""
    kind = code[0]
    rest = height - taken_by(code)
    if kind in ENDS:
        return []
    if kind == "jump":
        return [(code[1], rest)]
    if kind == "test":
        return [(place + 1, rest), (code[2], rest), (code[3], rest + 1)]
    return [(place + 1, rest + LEAVES.get(kind, 0))]


def names_what_is_there(code, place, ground):
    """Whether the variable, field, literal, block, class or message that a code names can be."""
    kind = code[0]
    if kind in ("temp", "settemp"):
        return code[1] < len(place.chain) and code[2] < place.chain[-1 - code[1]][1]
    if kind in ("field", "setfield"):
        return ground.many_fields is None or code[1] < ground.many_fields
    if kind == "lit":
        return code[1] < place.literals
    if kind == "block":
        return code[1] < len(place.body[3])
    if kind == "class":
        return ground.classes is None or code[1] in ground.classes
    if kind in MESSAGES and arity_of(code[1]) != code[2]:
        return False
    if kind in ("tail", "tailsuper"):
        return len(place.chain) == 1 and len(place.body[3]) == 0
    return kind != "return" or len(place.chain) > 1


def is_right(code, height, ways, place, ground):
    """Whether nothing is wrong at a code with this height and these ways on, apart from how it is come to."""
    if height < taken_by(code) or not names_what_is_there(code, place, ground):
        return False
    many = len(place.body[2])
    for to, _ in ways:
        if to >= many:
            return False
    return True


class Climb:
    """The heights of a body, found by going from 0 on, the least place that waits first."""

    def __init__(self, place, ground):
        self.place = place
        self.ground = ground
        self.heights = [None] * len(place.body[2])
        self.wrong = {}
        self.waiting = []

    def come(self, number, height):
        """A place is come to."""
        if self.heights[number] is None:
            self.heights[number] = height
            heappush(self.waiting, number)
        elif self.heights[number] != height:
            self.wrong[number] = True

    def climb(self):
        """Goes all ways, but none from a place that is wrong."""
        codes = self.place.body[2]
        self.come(0, 0)
        while self.waiting:
            number = heappop(self.waiting)
            code = codes[number]
            height = self.heights[number]
            ways = next_heights(number, code, height)
            if not is_right(code, height, ways, self.place, self.ground):
                self.wrong[number] = True
            if number not in self.wrong:
                for to, other in ways:
                    self.come(to, other)


def heights_on(made, ground):
    """For each body the list of the heights ahead of its codes, None for those that cannot be come to."""
    rows = []
    for number, place in enumerate(places_of(made)):
        climb = Climb(place, ground)
        climb.climb()
        if climb.wrong:
            raise BadCodes(number, min(list(climb.wrong)))
        rows.append(climb.heights)
    return rows
