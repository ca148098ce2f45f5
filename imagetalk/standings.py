"""All the standings of a program at turns, and how one comes from one to another."""

from imagetalk.counts import MOST_SENDS
from imagetalk.engine import NO_END
from imagetalk.errors import TooMany
from imagetalk.standing import Standing
from imagetalk.stock import Stock
from imagetalk.turner import Turner
from imagetalk.turning import go_on_with
from imagetalk.twins import twin
from imagetalk.watching import Watch

MOST_STANDINGS = 300


class Going:
    """A part of a run, up to the next turn or to the end: what it touched, and where it led.

    to is the number of the standing at that turn, None at an end, which is told as (kind, told, shown).
    """

    def __init__(self, to, end, watch):
        self.to = to
        self.told_end = end
        self.watch = watch


def standing_key(run):
    """What is the same for runs that stand alike at a turn."""
    standing = Standing(run)
    names = [f"{name} {selector}" for name, selector, _, _ in standing.made]
    return (run.output, str(run.made), *standing.process_rows(), *names, *standing.object_rows())


class Standings:
    """The standings at turns, each with its first shortest schedule, a run that stands there, and its goings."""

    def __init__(self, program, book, watches):
        self.stock = Stock(program, book, {})
        self.watches = watches
        self.numbers = {}
        self.schedules = []
        self.runs = []
        self.goings = []
        self.first = None
        self.order = []

    def find_all(self):
        """Finds all standings, those with shorter schedules first."""
        run = self.new_run()
        run.start_whole()
        self.first = self.going_of(run, [])
        number = 0
        while number < len(self.runs):
            many = len(self.runs[number].ready)
            self.goings.append([self.going_by(number, place, place == many - 1) for place in range(many)])
            number += 1
        self.order = self.last_first()

    def new_run(self):
        """A run that stops at its next turn."""
        run = Turner(self.stock, MOST_SENDS, [], 0)
        if self.watches:
            run.watch_by(Watch())
        return run

    def going_by(self, number, place, is_last):
        """The going from a standing by the place of a process; the last one goes on with the run that stands there."""
        run = self.runs[number]
        if not is_last:
            run = twin(run, self.new_run())
        elif self.watches:
            run.watch_by(Watch())
        go_on_with(run, place)
        return self.going_of(run, [*self.schedules[number], place])

    def going_of(self, run, schedule):
        """The going of a run, which comes by a schedule to where it leads."""
        run.go(NO_END)
        if run.ending is None:
            return Going(self.number_of(run, schedule), None, run.watch)
        kind, word, shown, _ = run.outcome()
        if kind == "stopped" and word in ("sends", "rounds"):
            raise TooMany("a run is too long")
        return Going(None, (kind, word, shown), run.watch)

    def number_of(self, run, schedule):
        """The number of the standing at which a run stands, a new one if none was like it."""
        key = standing_key(run)
        if key not in self.numbers:
            if len(self.runs) >= MOST_STANDINGS:
                raise TooMany("too many standings")
            self.numbers[key] = len(self.runs)
            self.runs.append(run)
            self.schedules.append(schedule)
        return self.numbers[key]

    def last_first(self):
        """The numbers of the standings, each one behind all to which it leads."""
        waits = [len([going for going in goings if going.to is not None]) for goings in self.goings]
        sources = [[] for _ in self.goings]
        for number, goings in enumerate(self.goings):
            for going in goings:
                if going.to is not None:
                    sources[going.to].append(number)
        order = [number for number in range(len(waits)) if waits[number] == 0]
        at = 0
        while at < len(order):
            for source in sources[order[at]]:
                waits[source] -= 1
                if waits[source] == 0:
                    order.append(source)
            at += 1
        if len(order) < len(waits):
            raise TooMany("a standing comes again")
        return order
