"""Runs by the machine whose turns go by a schedule, or that stop at a turn."""

from imagetalk.engine import Machine
from imagetalk.errors import BadSchedule
from imagetalk.image import FIRST_OBJECTS
from imagetalk.turning import go_on_with
from imagetalk.watching import watched_codes, watched_rule


class Paused(Exception):
    """A run has come to the turn at which it has to stop."""


class Turner(Machine):
    """A run whose turns go by a schedule; it stops at the turn with a number, if that is told.

    At such a turn no process goes on. watch, if there is one, is told what the run touches.
    """

    def __init__(self, stock, most_sends, schedule, last_turn):
        super().__init__(stock, most_sends, True)
        self.schedule = schedule
        self.last_turn = last_turn
        self.turns = 0
        self.watch = None

    def watch_by(self, watch):
        """From now on this is told what the run touches."""
        self.watch = watch
        for word, action in watched_codes().items():
            self.actions[word] = action

    def start_whole(self):
        """Starts the run with all its objects in the image, each one told by its number."""
        self.start()
        first = self.first_told()
        classes = [self.class_named(name) for name in first[len(FIRST_OBJECTS):]]
        for number, thing in enumerate([*classes, *self.things], start=len(FIRST_OBJECTS)):
            thing.serial = number

    def put_made(self, thing):
        """An object of the image that the process that goes on has made."""
        strand = self.going
        thing.maker = strand.number
        thing.serial = strand.made
        strand.made += 1
        return self.put(thing)

    def work_rule(self, rule, receiver, arguments):
        """Does what a message asks for by rule."""
        if self.watch is not None:
            watched_rule(self.watch, self.going.number, rule.key, receiver, arguments)
        super().work_rule(rule, receiver, arguments)

    def turn(self):
        """A turn has come: the process goes on that the schedule tells, or the run stops."""
        if self.turns == self.last_turn:
            self.going = None
            self.acts = []
            raise Paused()
        place = self.schedule[self.turns] if self.turns < len(self.schedule) else 0
        if place >= len(self.ready):
            raise BadSchedule(self.turns)
        self.turns += 1
        go_on_with(self, place)

    def go(self, count):
        """Does so many codes, or fewer if the run ends or stops at a turn."""
        try:
            super().go(count)
        except Paused:
            return
