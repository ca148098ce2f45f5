"""Point 39 worked plainly: meetings from a heap by their ways, each pair of literals held against all others."""

import heapq

TAKES = {"settemp": 1, "setfield": 1, "test": 1, "answer": 1, "return": 1, "block": 0}
ENDS = ("answer", "return", "tail", "tailsuper")


class Round(Exception):
    """Too many meetings, or a round without a deed."""


class Naive:
    def __init__(self, made, other):
        self.made, self.other, self.pairs = made, other, []

    def first_unlike(self):
        if self.made[2][0] != self.other[2][0]:
            return ()
        return self.walk(self.made[2], self.other[2])

    def same_literal(self, one, other):
        if any((one == known) != (other == counterpart) for known, counterpart in self.pairs) or self.made[1][one] != self.other[1][other]:
            return False
        self.pairs.append((one, other))
        return True

    def ahead_of_deed(self, codes, place, pile, done):
        pile, seen = list(pile), set()
        while True:
            code = codes[place]
            if code[0] in TAKES or code[0] in ENDS or code[0] in ("send", "super"):
                return place, pile
            if place in seen:
                raise Round()
            seen.add(place)
            if code[0] == "jump":
                place = code[1]
                continue
            if code[0] == "pop":
                pile.pop()
            else:
                pile.append(pile[-1] if code[0] == "dup" else code + (("done", done),) if code[0] in ("temp", "field") else code)
            place += 1

    def alike(self, body, other, code, counterpart, names, others):
        if code[0] != counterpart[0] or (code[0] == "test" and code[1] != counterpart[1]):
            return False
        if code[0] not in ("test", "block") and code != counterpart:
            return False
        for name, given in zip(names, others):
            if name[0] == given[0] == "lit":
                if not self.same_literal(name[1], given[1]):
                    return False
            elif name != given:
                return False
        if code[0] == "block":
            one, two = body[3][code[1]], other[3][counterpart[1]]
            return one[0] == two[0] and self.walk(one, two) is None
        return True

    def walk(self, body, other):
        heap, seen, serial = [(0, (), 0, 0, (), 0, (), 0)], set(), 0
        while heap:
            _, way, _, place, pile, place_of_other, pile_of_other, done = heapq.heappop(heap)
            key = (place, dated_back(pile, done), place_of_other, dated_back(pile_of_other, done))
            if key in seen:
                continue
            seen.add(key)
            if len(seen) > 400:
                raise Round()
            place, pile = self.ahead_of_deed(body[2], place, pile, done)
            place_of_other, pile_of_other = self.ahead_of_deed(other[2], place_of_other, pile_of_other, done)
            code, counterpart = body[2][place], other[2][place_of_other]
            many = TAKES[code[0]] if code[0] in TAKES else code[2] + 1
            names, others = pile[len(pile) - many:], pile_of_other[len(pile_of_other) - many:]
            if not self.alike(body, other, code, counterpart, names, others):
                return way
            if code[0] in ENDS:
                continue
            done += 1
            serial -= 1
            rest, rest_of_other = pile[:len(pile) - many], pile_of_other[:len(pile_of_other) - many]
            told = ("told", ("done", done))
            rows = [(way, place + 1, place_of_other + 1, [told], [told])]
            if code[0] == "test":
                targets = ((place + 1, place_of_other + 1, []), (code[2], counterpart[2], []), (code[3], counterpart[3], [told]))
                rows = [(way + (number,), one, two, more, more) for number, (one, two, more) in enumerate(targets)]
            elif code[0] in ("settemp", "setfield"):
                rows = [(way, place + 1, place_of_other + 1, names, others)]
            for longer, one, two, more, more_of_other in rows:
                heapq.heappush(heap, (len(longer), longer, serial, one, tuple(rest + more), two, tuple(rest_of_other + more_of_other), done))
        return None


def dated_back(pile, done):
    return tuple(name[:-1] + (("back", done - name[-1][1]),) if isinstance(name[-1], tuple) else name for name in pile)
