"""Worlds: runs by the machine that can be stopped anywhere, looked at, written down and changed."""

from imagetalk.changes import change_fields_of, drop_method_of, put_method_in
from imagetalk.collecting import collect_garbage, garbage_many
from imagetalk.counts import MOST_SENDS, check_codes, check_sends, is_count
from imagetalk.engine import NO_END, Machine, begun
from imagetalk.errors import NoObject
from imagetalk.likeness import unlike_word
from imagetalk.programread import read_program
from imagetalk.stock import Stock
from imagetalk.telling import told
from imagetalk.twins import twin
from imagetalk.worldreader import run_of_text
from imagetalk.worldwriter import text_of_run


def read_world(text):
    """The World of a text that a World has written."""
    return World(run_of_text(text))


def finished(run, sends):
    """A run that goes on from where another one stands to its end, with so many sends in all."""
    other = twin(run, Machine(run.stock, sends, True))
    if other.ending is None and other.sent > sends:
        other.end("stopped", "sends")
    other.go(NO_END)
    return other


class World:
    """A run of a program by the machine, at its beginning at first."""

    def __init__(self, program):
        # A run is no program, and is taken as it stands: so copies are made.
        if isinstance(program, Machine):
            self.run = program
        else:
            self.run = begun(Stock(program, read_program(program), {}), MOST_SENDS, True)

    def step(self, count):
        """Does at most so many codes, and tells how many it did."""
        check_codes(count)
        done = self.run.done
        self.run.go(count)
        return self.run.done - done

    @property
    def ended(self):
        """Whether the run has ended."""
        return self.run.ending is not None

    @property
    def shown(self):
        """What was shown."""
        return self.run.output

    @property
    def sends(self):
        """How many sends were done."""
        return self.run.sent

    def finish(self, sends):
        """The outcome that comes if the run goes on from here, with so many sends in all."""
        check_sends(sends)
        other = finished(self.run, sends)
        return other.outcome()

    def trace(self, sends):
        """The trace of the whole run that finish tells of."""
        check_sends(sends)
        other = finished(self.run, sends)
        return other.messages

    def objects(self):
        """All objects of the image, each as (number, told)."""
        return list(enumerate([*self.run.first_told(), *[told(thing) for thing in self.run.things]]))

    def fields(self, number):
        """The fields of an object, each as (name, told)."""
        if not is_count(number, self.run.first_many() + len(self.run.things) - 1):
            raise NoObject("no number of an object")
        thing = self.run.holder_at(number)
        if thing is None:
            return []
        if thing.is_a("Array"):
            return [(str(place), told(value)) for place, value in enumerate(thing.data, start=1)]
        return [(name, told(value)) for name, value in zip(thing.kind.field_names, thing.parts)]

    def copy(self):
        """A World that stands at the same place."""
        return World(twin(self.run, Machine(self.run.stock, MOST_SENDS, True)))

    def __eq__(self, other):
        """Whether the other one is a World that stands alike."""
        return isinstance(other, World) and unlike_word(self.run, other.run) is None

    def unlike(self, other):
        """The first word that tells where two Worlds differ, None if they are equal."""
        return unlike_word(self.run, other.run)

    def write(self):
        """The text of this World."""
        return text_of_run(self.run)

    def collect(self):
        """Leaves out what is not reached, and tells how many objects that were."""
        return collect_garbage(self.run)

    def garbage(self):
        """How many objects are not reached."""
        return garbage_many(self.run)

    def put_method(self, name, source):
        """Gives a class of the program's own a method."""
        put_method_in(self.run, name, source)

    def drop_method(self, name, selector):
        """Takes a method away from a class of the program's own."""
        drop_method_of(self.run, name, selector)

    def change_fields(self, name, fields):
        """Gives a class of the program's own other fields."""
        change_fields_of(self.run, name, fields)

    def program(self):
        """The program as it is now."""
        return self.run.stock.source_program
