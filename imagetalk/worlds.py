"""Worlds: runs by the machine that can be stopped anywhere, looked at, written down and changed."""

from imagetalk.changes import change_fields_of, drop_method_of, put_method_in
from imagetalk.collecting import collect_garbage, garbage_many
from imagetalk.counts import MOST_SENDS, check_codes, check_sends, is_count
from imagetalk.engine import NO_END, Machine
from imagetalk.errors import NoObject
from imagetalk.programread import read_program
from imagetalk.standing import unlike_word
from imagetalk.stock import Stock
from imagetalk.telling import told
from imagetalk.things import Thing
from imagetalk.twins import twin
from imagetalk.worldreader import run_of_text
from imagetalk.worldwriter import text_of_run

NO_PROGRAM = ((), "")


def read_world(text):
    """The World of a text that a World has written."""
    return world_of(run_of_text(text))


def world_of(run):
    """The World that is this run."""
    world = World(NO_PROGRAM)
    world.run = run
    return world


def finished(run, sends):
    """A run that goes on from where another one stands to its end, with so many sends in all."""
    other = twin(run, Machine(run.stock, sends, True))
    if other.ending is None and other.sent > sends:
        other.end("stopped", "sends")
    other.go(NO_END)
    return other


class World:
    """A run of a program by the machine, at its beginning at first."""

    def __init__(self, program):
        book = read_program(program)
        self.run = Machine(Stock(program, book, {}), MOST_SENDS, True)
        self.run.put_classes()
        self.run.start()

    def step(self, count):
        """Does at most so many codes, and tells how many it did."""
        check_codes(count)
        done = self.run.done
        self.run.go(count)
        return self.run.done - done

    @property
    def ended(self):
        """Whether the run has ended."""
        return self.run.ending is not None

    @property
    def shown(self):
        """What was shown."""
        return self.run.output

    @property
    def sends(self):
        """How many sends were done."""
        return self.run.sent

    def finish(self, sends):
        """The outcome that comes if the run goes on from here, with so many sends in all."""
        check_sends(sends)
        other = finished(self.run, sends)
        return other.outcome()

    def trace(self, sends):
        """The trace of the whole run that finish tells of."""
        check_sends(sends)
        other = finished(self.run, sends)
        return other.messages

    def objects(self):
        """All objects of the image, each as (number, told)."""
        return [(number, told(thing)) for number, thing in enumerate(self.run.things)]

    def fields(self, number):
        """The fields of an object, each as (name, told)."""
        if not is_count(number, len(self.run.things) - 1):
            raise NoObject("no number of an object")
        thing = self.run.things[number]
        if not isinstance(thing, Thing):
            return []
        if thing.is_a("Array"):
            return [(str(place), told(value)) for place, value in enumerate(thing.data, start=1)]
        return [(name, told(value)) for name, value in zip(thing.kind.field_names, thing.parts)]

    def copy(self):
        """A World that stands at the same place."""
        return world_of(twin(self.run, Machine(self.run.stock, MOST_SENDS, True)))

    def __eq__(self, other):
        """Whether the other one is a World that stands alike."""
        return isinstance(other, World) and unlike_word(self.run, other.run) is None

    def unlike(self, other):
        """The first word that tells where two Worlds differ, None if they are equal."""
        return unlike_word(self.run, other.run)

    def write(self):
        """The text of this World."""
        return text_of_run(self.run)

    def collect(self):
        """Leaves out what is not reached, and tells how many objects that were."""
        return collect_garbage(self.run)

    def garbage(self):
        """How many objects are not reached."""
        return garbage_many(self.run)

    def put_method(self, name, source):
        """Gives a class of the program's own a method."""
        put_method_in(self.run, name, source)

    def drop_method(self, name, selector):
        """Takes a method away from a class of the program's own."""
        drop_method_of(self.run, name, selector)

    def change_fields(self, name, fields):
        """Gives a class of the program's own other fields."""
        change_fields_of(self.run, name, fields)

    def program(self):
        """The program as it is now."""
        return self.run.stock.source_program
