"""Codes of a body while some are put in the place of others: targets stay at what stood there."""

# Where the targets of a code stand in it.
TARGETS = {"jump": (1,), "test": (2, 3)}


def targets_of(code):
    """The places to which a code can jump."""
    return [code[at] for at in TARGETS.get(code[0], ())]


def with_targets(code, turned):
    """The code with other targets, told for each old one; those that are not told stay."""
    spots = TARGETS.get(code[0], ())
    return tuple([turned.get(part, part) if at in spots else part for at, part in enumerate(code)])


class Tape:
    """The codes of a body, each with the places of the first codes, as they were at first, that it now stands for."""

    def __init__(self, codes):
        self.codes = list(codes)
        self.labels = [[place] for place in range(len(codes))]
        self.labels.append([])
        self.counts = {}
        for code in codes:
            self.count_targets(code, 1)

    def count_targets(self, code, step):
        """The targets of a code come or go."""
        for target in targets_of(code):
            self.counts[target] = self.counts.get(target, 0) + step

    def is_target(self, place):
        """Whether some code has what stands here as a target."""
        return any([self.counts.get(label, 0) > 0 for label in self.labels[place]])

    def swap(self, place, many, codes):
        """Puts codes in the place of so many others, of which none but the first one is a target."""
        for code in self.codes[place:place + many]:
            self.count_targets(code, -1)
        for code in codes:
            self.count_targets(code, 1)
        labels = [label for row in self.labels[place:place + many] for label in row]
        self.codes[place:place + many] = codes
        self.labels[place:place + many] = [[] for _ in codes]
        self.labels[place] = labels + self.labels[place]

    def result(self):
        """The codes, their targets turned."""
        turned = {label: place for place, row in enumerate(self.labels) for label in row}
        return tuple([with_targets(code, turned) for code in self.codes])
