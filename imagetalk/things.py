"""What a run consists of: objects, classes, methods, activations and processes."""


class Stopped(Exception):
    """A run would go beyond one of its bounds."""

    def __init__(self, word):
        super().__init__(f"stopped by {word}")
        self.word = word


class Refused(Exception):
    """What is done by rule cannot be done: the class of the exception that is signalled in its place."""

    def __init__(self, word):
        super().__init__(f"refused with {word}")
        self.word = word


class Kind:
    """A class, as what its instances have in common. Several runs share it: nothing of it changes.

    own tells whether it is one of the program's own, no NAME class.
    """

    def __init__(self, name, parent, field_names, own):
        self.name = name
        self.own = own
        self.parent = parent
        self.field_names = field_names
        self.line = (name,) if parent is None else (name, *parent.line)

    def is_kind_of(self, name):
        """Whether it is the class of this name or one below it."""
        return name in self.line


class Thing:
    """An object of a run. Integers, nil, true and false are those of Python.

    Its data are the signs of a String or Symbol, the list of the items of an Array, the Kind of a class, the Closure of
    a Block, the Strand of a Process, the Signals of a Semaphore, None for others. Its parts are what its fields hold.
    maker is the number of the process that made it, -1 for none, and serial its number among those.
    """

    def __init__(self, kind, data):
        self.kind = kind
        self.parts = [None] * len(kind.field_names)
        self.data = data
        self.maker = -1
        self.serial = 0

    def is_a(self, name):
        """Whether it is an instance of the class of this name itself."""
        return self.kind.name == name


class Method:
    """A method with a source: what was read of it, the trees of its literals, and its body when it is needed.

    Several runs share it: each one has its literals as objects of its own.
    """

    def __init__(self, kind, selector, parsed, trees):
        self.kind = kind
        self.selector = selector
        self.parsed = parsed
        self.trees = trees
        self.body = None


class Rule:
    """A method that is done by rule, with its class and selector; one that is direct returns what it answers."""

    def __init__(self, key, action, direct):
        self.key = key
        self.action = action
        self.direct = direct


class Closure:
    """What a Block knows: its body, with its number in the body around, and the activation in which it was made."""

    def __init__(self, number, body, around):
        self.number = number
        self.body = body
        self.around = around


class Signals:
    """What a Semaphore knows: its signals, and the processes that wait for one."""

    def __init__(self):
        self.count = 0
        self.waiting = []


class Strand:
    """A process: its activations, the Block that it has to begin with, and what comes when it goes on.

    gone tells whether it has ended, made how many objects it has made.
    """

    def __init__(self, number, block):
        self.number = number
        self.acts = []
        self.thing = None
        self.block = block
        self.comes = None
        self.waits_at = None
        self.gone = False
        self.made = 0


class Activation:
    """One of a method or of a Block that is worked: around and block are None for a method.

    pile has its values under way, cells its variables. after tells what its end leads to, if not to its sender:
    "process", "receiver", "argument", "way", "handler" or "ended"; held is the Way, the Handling or the Remains that it
    belongs to then. process is the number of the process in which it began.
    """

    def __init__(self, method, body, receiver, cells, steps):
        self.kind = "method"
        self.method = method
        self.body = body
        self.receiver = receiver
        self.cells = cells
        self.steps = steps
        self.place = 0
        self.pile = []
        self.around = None
        self.block = None
        self.level = 0
        self.after = None
        self.held = None
        self.waits = False
        self.process = 0


class Guard:
    """An activation of ensure:, ifCurtailed: or on:do:, its kind "ensure", "curtail" or "handle".

    argument is its Block that may be worked later, caught the name of the class that on:do: catches, begun whether the
    argument of the others has begun, kept what the receiver of ensure: answered.
    """

    def __init__(self, kind, block, argument, caught):
        self.kind = kind
        self.block = block
        self.argument = argument
        self.caught = caught
        self.begun = False
        self.kept = None
        self.level = 0
        self.after = None
        self.held = None
        self.process = 0


class Way:
    """A way out: the place of the activation at which it ends, and what comes there."""

    def __init__(self, low, arrival, value):
        self.low = low
        self.arrival = arrival
        self.carried = value


class Handling:
    """An exception that is being handled, and the activation of the on:do: whose Block does that."""

    def __init__(self, exception, guard):
        self.exception = exception
        self.guard = guard


class Remains:
    """The arguments of a process that was ended by another one, which works them, that have not begun."""

    def __init__(self, strand, blocks):
        self.strand = strand
        self.blocks = blocks
