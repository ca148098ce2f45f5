"""What is done by rule in Object, Class, Object class, Array class and Transcript class."""

from imagetalk.names import OPERATORS, is_keywords
from imagetalk.telling import told
from imagetalk.things import Kind, Refused, Signals, Stopped, Thing

MOST_SHOWN = 2000
MOST_ITEMS = 200

# The classes that have no new instances.
NOT_NEW = ("Class", "Metaclass", "UndefinedObject", "Boolean", "True", "False", "Integer", "Symbol", "Block", "Process",
           "Transcript", "Processor")

# The classes whose instances no other object can become.
LASTING = ("Symbol", "Block", "Process", "Semaphore")


def is_integer(value):
    """Whether a value is an integer."""
    return type(value) is int


def is_class(value):
    """Whether a value is a class."""
    return isinstance(value, Thing) and isinstance(value.data, Kind)


def is_instance(value, name):
    """Whether a value is an instance of this class itself."""
    return isinstance(value, Thing) and value.is_a(name)


def same(run, receiver, other):
    """Object `==`."""
    return is_integer(receiver) == is_integer(other) and receiver == other


def not_same(run, receiver, other):
    """Object `~~`."""
    return not same(run, receiver, other)


def class_of_value(run, receiver):
    """Object `class`."""
    return run.class_thing(run.kind_of(receiver))


def print_string(run, receiver):
    """Object `printString`."""
    return run.new_text(told(receiver))


def is_kind_of(run, receiver, other):
    """Object `isKindOf:`."""
    kind = run.kind_of(receiver)
    return is_class(other) and kind.is_kind_of(other.data.name)


def symbol_text(value):
    """The text of a Symbol."""
    if not is_instance(value, "Symbol"):
        raise Refused("BadKind")
    return value.data


def responds_to(run, receiver, symbol):
    """Object `respondsTo:`."""
    text = symbol_text(symbol)
    return run.method_for(run.kind_of(receiver), text) is not None


def performed_arity(text):
    """How many arguments a message wants that has this text as its selector."""
    if is_keywords(text):
        return text.count(":")
    return 1 if text in OPERATORS else 0


def perform(run, receiver, symbol):
    """Object `perform:`."""
    send_performed(run, receiver, symbol, ())


def perform_with(run, receiver, symbol, argument):
    """Object `perform:with:`."""
    send_performed(run, receiver, symbol, (argument,))


def send_performed(run, receiver, symbol, arguments):
    """Sends what a Symbol names."""
    text = symbol_text(symbol)
    if performed_arity(text) != len(arguments):
        raise Refused("WrongArguments")
    run.send(receiver, text, arguments)


def copied(run, receiver):
    """Object `copy`."""
    if not isinstance(receiver, Thing) or is_class(receiver) or receiver.kind.name in ("Symbol", "Block", "Process"):
        return receiver
    data = receiver.data
    if receiver.is_a("Array"):
        data = list(data)
    elif receiver.is_a("Semaphore"):
        data = Signals()
    thing = run.new_thing(receiver.kind, data)
    thing.parts = list(receiver.parts)
    return thing


def become(run, receiver, other):
    """Object `become:`: the two change places by changing all that they hold."""
    if not can_become(receiver) or not isinstance(other, Thing) or other.kind.name != receiver.kind.name:
        raise Refused("BadKind")
    swap(run, receiver, other)
    return receiver


def swap(run, one, other):
    """Two objects change places: what stands for the one wherever it is held comes to be the other one."""
    first = run.things.index(one)
    second = run.things.index(other)
    run.things[first], run.things[second] = other, one
    one.parts, other.parts = other.parts, one.parts
    one.data, other.data = other.data, one.data
    one.maker, other.maker = other.maker, one.maker
    one.serial, other.serial = other.serial, one.serial


def can_become(value):
    """Whether a value can change places with another one."""
    if not isinstance(value, Thing) or is_class(value):
        return False
    return value.kind.name not in LASTING and not value.kind.is_kind_of("Exception")


def class_name(run, receiver):
    """Class `name`."""
    return run.new_text(receiver.data.name)


def class_parent(run, receiver):
    """Class `parent`."""
    parent = receiver.data.parent
    return None if parent is None else run.class_thing(parent)


def new_instance(run, receiver):
    """Object class `new`."""
    if receiver.data.name in NOT_NEW:
        raise Refused("BadKind")
    return run.new_instance(receiver.data)


def new_array(run, receiver, size):
    """Array class `new:`."""
    if not is_integer(size):
        raise Refused("BadKind")
    if not 0 <= size <= MOST_ITEMS:
        raise Refused("BadIndex")
    return run.new_array([None] * size)


def show(run, receiver, value):
    """Transcript class `show:`."""
    bare = is_instance(value, "String") or is_instance(value, "Symbol")
    text = value.data if bare else told(value)
    if len(run.output) + len(text) > MOST_SHOWN:
        raise Stopped("signs")
    run.output += text
    return receiver


OBJECT_RULES = {
    ("Object", "=="): same,
    ("Object", "~~"): not_same,
    ("Object", "="): same,
    ("Object", "class"): class_of_value,
    ("Object", "printString"): print_string,
    ("Object", "isKindOf:"): is_kind_of,
    ("Object", "respondsTo:"): responds_to,
    ("Object", "copy"): copied,
    ("Object", "become:"): become,
    ("Class", "name"): class_name,
    ("Class", "parent"): class_parent,
    ("Object class", "new"): new_instance,
    ("Array class", "new:"): new_array,
    ("Transcript class", "show:"): show,
}
PERFORM_RULES = {
    ("Object", "perform:"): perform,
    ("Object", "perform:with:"): perform_with,
}
