"""Whether two made methods go in step."""

from imagetalk.errors import TooMany
from imagetalk.passes import check_passable
from imagetalk.soundness import ENDS, taken_by

MOST_MEETINGS = 400

# The codes that do something; the others only turn the names on the pile.
DEEDS = ("settemp", "setfield", "send", "super", "tail", "tailsuper", "block", "test", "answer", "return")

# The deeds that leave something new.
LEAVES_TOLD = ("send", "super", "block")

# The names that tell behind how many deeds they were made, at their end.
DATED = ("told", "temp", "field")


def same_deeds(made, other):
    """Whether two made methods go in step."""
    return first_unlike(made, other) is None


def first_unlike(made, other):
    """The ways of the tests to the first meeting from which two methods do not go in step, None if there is none."""
    check_passable(made)
    check_passable(other)
    if made[2][0] != other[2][0]:
        return ()
    pairing = Pairing(made[1], other[1])
    return pairing.first_in(made[2], other[2], ((), ()))


class Spot:
    """Where one of two bodies stands at a meeting: the place and the names on its pile."""

    def __init__(self, place, pile):
        self.place = place
        self.pile = pile


class Meeting:
    """Both bodies at a meeting, behind so many deeds, with the ways of the tests that led there."""

    def __init__(self, way, done, one, other):
        self.way = way
        self.done = done
        self.one = one
        self.other = other

    def likeness(self):
        """What is the same for meetings that are alike."""
        return (self.one.place, dated_back(self.one.pile, self.done),
                self.other.place, dated_back(self.other.pile, self.done))


def dated_back(pile, done):
    """The names with their deeds counted backwards from the newest."""
    return tuple([(*name[:-1], done - name[-1]) if name[0] in DATED else name for name in pile])


def name_left(code, done):
    """The name that a code leaves which is no deed."""
    return (*code, done) if code[0] in DATED else code


def gone_on(codes, spot, done):
    """Where a body stands ahead of its next deed."""
    place = spot.place
    pile = list(spot.pile)
    seen = {}
    while codes[place][0] not in DEEDS:
        if place in seen:
            raise TooMany("one goes round without a deed")
        seen[place] = True
        code = codes[place]
        if code[0] == "jump":
            place = code[1]
            continue
        if code[0] == "pop":
            pile.pop()
        elif code[0] == "dup":
            pile.append(pile[-1])
        else:
            pile.append(name_left(code, done))
        place += 1
    return Spot(place, pile)


def same_code(code, other):
    """Whether two deeds are the same, but for the targets of a test and the number of a block."""
    if code[0] in ("test", "block"):
        return code[0] == other[0] and (code[0] == "block" or code[1] == other[1])
    return code == other


def spots_behind(code, spot, done):
    """Where a body stands behind a deed, which is the last of so many: nowhere, at one place, or at three."""
    if code[0] in ENDS:
        return []
    told = ("told", done)
    pile = spot.pile
    if code[0] == "test":
        rest = pile[:-1]
        return [Spot(spot.place + 1, rest), Spot(code[2], rest), Spot(code[3], [*rest, told])]
    if code[0] in LEAVES_TOLD:
        pile = [*pile[:len(pile) - taken_by(code)], told]
    return [Spot(spot.place + 1, pile)]


class Pairing:
    """Two made methods that are gone through side by side: which of their literals stand for each other so far."""

    def __init__(self, trees, others):
        self.trees = trees
        self.others = others
        self.partner = {}
        self.partner_back = {}
        self.gone = {}

    def first_in(self, body, other, paths):
        """As first_unlike, for two bodies; paths tell where they stand in their methods."""
        self.gone[paths] = True
        met = {}
        waiting = [Meeting((), 0, Spot(0, []), Spot(0, []))]
        at = 0
        while at < len(waiting):
            meeting = waiting[at]
            at += 1
            while meeting is not None and self.is_new(meeting, met):
                behind = self.behind(meeting, body, other, paths)
                if behind is None:
                    return meeting.way
                if len(behind) == 1:
                    meeting = behind[0]
                else:
                    waiting.extend(behind)
                    meeting = None
        return None

    def is_new(self, meeting, met):
        """Whether no meeting was like this one, which is put among those that came."""
        key = meeting.likeness()
        if key in met:
            return False
        if len(met) >= MOST_MEETINGS:
            raise TooMany("too many meetings")
        met[key] = True
        return True

    def behind(self, meeting, body, other, paths):
        """The meetings behind the next deed, None if it is not the same one in both."""
        one = gone_on(body[2], meeting.one, meeting.done)
        two = gone_on(other[2], meeting.other, meeting.done)
        code = body[2][one.place]
        counterpart = other[2][two.place]
        if not same_code(code, counterpart) or not self.same_names(code, one.pile, two.pile):
            return None
        if code[0] == "block" and not self.same_blocks(body, other, paths, (code[1], counterpart[1])):
            return None
        done = meeting.done + 1
        spots = spots_behind(code, one, done)
        others = spots_behind(counterpart, two, done)
        if len(spots) == 1:
            return [Meeting(meeting.way, done, spots[0], others[0])]
        return [Meeting((*meeting.way, way), done, spots[way], others[way]) for way in range(len(spots))]

    def same_names(self, code, pile, other):
        """Whether both deeds take the same names."""
        many = taken_by(code)
        for name, counterpart in zip(pile[len(pile) - many:], other[len(other) - many:]):
            if not self.same_name(name, counterpart):
                return False
        return True

    def same_name(self, name, other):
        """Whether two names are the same; literals that meet for the first time stand for each other from now on."""
        if name[0] != "lit" or other[0] != "lit":
            return name == other
        number, counterpart = name[1], other[1]
        if number not in self.partner and counterpart not in self.partner_back:
            if self.trees[number] != self.others[counterpart]:
                return False
            self.partner[number] = counterpart
            self.partner_back[counterpart] = number
        return self.partner.get(number) == counterpart

    def same_blocks(self, body, other, paths, numbers):
        """Whether two written blocks go in step."""
        block = body[3][numbers[0]]
        counterpart = other[3][numbers[1]]
        inner = ((*paths[0], numbers[0]), (*paths[1], numbers[1]))
        if inner in self.gone:
            return True
        return block[0] == counterpart[0] and self.first_in(block, counterpart, inner) is None
