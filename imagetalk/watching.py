"""What the processes of a run read, write and use."""

from imagetalk.deeds import owner_of, push_field, push_variable, set_field, set_variable
from imagetalk.objectrules import is_integer, is_instance
from imagetalk.telling import DEEPEST_TOLD, LONGEST_TOLD, told_at
from imagetalk.things import Kind, Thing

SHOWING = ("Transcript class", "show:")
ENDING = ("Process", "terminate")
SIGNALLING = (("Block", "fork"), ("Process", "terminate"), ("Object", "become:"), ("Semaphore", "signal"),
              ("Semaphore", "wait"))
TELLING = (("Object", "printString"), ("Transcript class", "show:"))


class Watch:
    """What was touched so far, each as (process, owner, number, place), and which processes used what.

    strays tells whether one has read or set a variable of another one's activation, ends whether one used terminate.
    """

    def __init__(self):
        self.reads = {}
        self.writes = {}
        self.showing = {}
        self.signalling = {}
        self.strays = False
        self.ends = False

    def note_read(self, process, thing, place):
        """A process reads a field or an item."""
        self.reads[(process, thing.maker, thing.serial, place)] = True

    def note_write(self, process, thing, place):
        """A process writes a field or an item."""
        self.writes[(process, thing.maker, thing.serial, place)] = True

    def note_items(self, process, array):
        """A process reads all items of an Array."""
        for place in range(1, len(array.data) + 1):
            self.note_read(process, array, place)


def watched_codes():
    """What codes do in a run that is watched, where they touch something."""
    return {"field": read_field, "setfield": write_field, "temp": read_variable, "settemp": write_variable}


def read_field(run, act, code):
    """A field of the receiver."""
    run.watch.note_read(run.going.number, act.receiver, code[1])
    push_field(run, act, code)


def write_field(run, act, code):
    """Writes a field of the receiver."""
    run.watch.note_write(run.going.number, act.receiver, code[1])
    set_field(run, act, code)


def note_owner(run, act, code):
    """A variable is read or written, perhaps one of another process's activation."""
    watch = run.watch
    if owner_of(act, code[1]).process != run.going.number:
        watch.strays = True


def read_variable(run, act, code):
    """A variable."""
    note_owner(run, act, code)
    push_variable(run, act, code)


def write_variable(run, act, code):
    """Writes a variable."""
    note_owner(run, act, code)
    set_variable(run, act, code)


def watched_rule(watch, process, key, receiver, arguments):
    """A process comes to what is done by rule; what is refused touches nothing."""
    if key == SHOWING:
        watch.showing[process] = True
    if key in SIGNALLING:
        watch.signalling[process] = True
        watch.ends = watch.ends or key == ENDING
    if key in TELLING:
        for array in told_arrays(arguments[0] if key == SHOWING else receiver):
            watch.note_items(process, array)
    elif key == ("Object", "copy"):
        watch_copy(watch, process, receiver)
    elif key == ("Array", "at:") and is_place(receiver, arguments[0]):
        watch.note_read(process, receiver, arguments[0])
    elif key == ("Array", "at:put:") and is_place(receiver, arguments[0]):
        watch.note_write(process, receiver, arguments[0])
    elif key == ("Block", "valueWithArguments:") and fits(receiver, arguments[0]):
        watch.note_items(process, arguments[0])


def watch_copy(watch, process, value):
    """A process copies a value: classes, which have fields too, answer themselves."""
    if is_instance(value, "Array"):
        watch.note_items(process, value)
    elif isinstance(value, Thing) and not isinstance(value.data, Kind):
        for place in range(len(value.parts)):
            watch.note_read(process, value, place)


def is_place(array, place):
    """Whether a value is a place of an Array."""
    return is_integer(place) and 1 <= place <= len(array.data)


def fits(block, value):
    """Whether a value is an Array with as many items as a Block has parameters."""
    return is_instance(value, "Array") and len(value.data) == block.data.body[0]


def told_arrays(value):
    """The Arrays whose items are told where a value is told."""
    found = []
    put_told_arrays(value, 0, LONGEST_TOLD, found)
    return found


def put_told_arrays(value, depth, room, found):
    """Puts the Arrays of a value within so many others behind those that were found; returns how long its text is."""
    if not is_instance(value, "Array") or depth == DEEPEST_TOLD:
        return len(told_at(value, depth, room))
    found.append(value)
    length = 3
    for item in value.data:
        if length > room:
            break
        length += put_told_arrays(item, depth + 1, room - length, found) + 1
    return length
