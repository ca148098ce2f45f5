"""A run gone through step by step, and back."""

from imagetalk.classes import check_selector
from imagetalk.counts import MOST_SENDS, is_count, is_integer
from imagetalk.engine import begun
from imagetalk.errors import BadClass, BadCount, BadLog, BadNumber, Late, NothingToUndo, NotThat, TalkError
from imagetalk.history import History
from imagetalk.likeness import unlike_word
from imagetalk.moments import moment_of
from imagetalk.plans import variables_scope
from imagetalk.programread import read_program
from imagetalk.stepping import go_into, go_out, go_over, go_to_method, go_until, restart_act
from imagetalk.stock import Stock
from imagetalk.telling import told
from imagetalk.things import Guard

# How many arguments each command has.
COMMANDS = {"into": 0, "over": 0, "out": 0, "run_to": 2, "until": 1, "restart": 1}


def replayed(program, log):
    """The Stepper behind the commands of a log."""
    stepper = Stepper(program)
    if not isinstance(log, list):
        raise BadLog(-1)
    for place, command in enumerate(log):
        if not is_command(command) or not is_worked(stepper, command):
            raise BadLog(place)
    return stepper


def is_command(thing):
    """Whether any object is a command with as many arguments as it has."""
    if not isinstance(thing, tuple) or len(thing) == 0 or not isinstance(thing[0], str):
        return False
    return COMMANDS.get(thing[0]) == len(thing) - 1


def is_worked(stepper, command):
    """Works a command, and tells whether it raised nothing."""
    try:
        stepper.do_command(command)
    except TalkError:
        return False
    return True


def scope_of(act):
    """The Scope that tells the names of the variables of an activation."""
    if act.around is not None:
        return scope_of(act.around).inner[act.block.data.number]
    return variables_scope(act.method.parsed, act.method.kind.field_names, False, True)


class Stepper:
    """A run of a program by the machine, at its beginning at first."""

    def __init__(self, program):
        self.run = begun(Stock(program, read_program(program), {}), MOST_SENDS, True)
        self.history = History(self.run)

    def into(self):
        """Goes on until an activation begins or ends."""
        return self.do_command(("into",))

    def over(self):
        """Goes on until the topmost activation is on top again, or has ended."""
        return self.do_command(("over",))

    def out(self):
        """Goes on until the topmost activation has ended."""
        return self.do_command(("out",))

    def run_to(self, name, selector):
        """Goes on until an activation begins of the method that a class itself has."""
        return self.do_command(("run_to", name, selector))

    def until(self, count):
        """Goes on until so many codes are done in all."""
        return self.do_command(("until", count))

    def restart(self, number):
        """Lets an activation of the process that goes on begin anew."""
        self.do_command(("restart", number))

    def do_command(self, command):
        """Works a command; whether what it waited for came ahead of the end."""
        self.check_command(command)
        count = self.run.done
        try:
            came = self.go_on(command)
        except Late:
            self.run = self.history.run_at(count)
            raise Late("too many codes") from None
        self.history.put_command(command, count, self.run)
        return came

    def check_command(self, command):
        """Refuses a command with arguments that cannot be."""
        if command[0] == "run_to":
            if not self.run.stock.book.has_class(command[1]):
                raise BadClass("no class of the program")
            check_selector(command[2])
        elif command[0] == "until":
            if not is_integer(command[1]) or command[1] < self.run.done:
                raise BadCount("not an integer from the number of codes on")
        elif command[0] == "restart":
            if isinstance(self.act_at(command[1]), Guard):
                raise NotThat("not an activation of a method or a Block")

    def go_on(self, command):
        """Works a command that has been checked."""
        run = self.run
        if command[0] == "restart":
            restart_act(run, command[1])
            return None
        if run.ending is not None:
            return False
        if command[0] == "run_to":
            return go_to_method(run, command[1], command[2])
        if command[0] == "until":
            return go_until(run, command[1])
        if command[0] == "into":
            return go_into(run)
        return go_over(run) if command[0] == "over" else go_out(run)

    def act_at(self, number):
        """The activation with this number in the process that goes on."""
        if self.run.ending is not None or not is_count(number, len(self.run.acts) - 1):
            raise BadNumber("no number of an activation")
        return self.run.acts[number]

    def frames(self):
        """The activations of the process that goes on, each as (kind, class, selector, place), () at the end."""
        if self.run.ending is not None:
            return ()
        return tuple([row[:4] for row in moment_of(self.run)])

    def variables(self, number):
        """What is told of self and of the variables of an activation, each as (name, told)."""
        act = self.act_at(number)
        if isinstance(act, Guard):
            return [("self", told(act.block))]
        cells = [(name, told(value)) for name, value in zip(scope_of(act).order, act.cells)]
        return [("self", told(act.receiver)), *cells]

    def stack(self, number):
        """What is told of the values of an activation that are under way."""
        act = self.act_at(number)
        return [] if isinstance(act, Guard) else [told(value) for value in act.pile]

    @property
    def shown(self):
        """What was shown."""
        return self.run.output

    @property
    def ended(self):
        """Whether the run has ended."""
        return self.run.ending is not None

    @property
    def codes_done(self):
        """How many codes have been done."""
        return self.run.done

    def back(self):
        """Takes back the last command that is in force."""
        if not self.history.commands:
            raise NothingToUndo("no command is in force")
        self.run = self.history.drop_last()

    def log(self):
        """The commands in force, each as (word, arguments ..)."""
        return list(self.history.commands)

    def __eq__(self, other):
        """Whether the other one is a Stepper that stands at the same place, behind the same commands."""
        if not isinstance(other, Stepper) or self.history.commands != other.history.commands:
            return False
        return unlike_word(self.run, other.run) is None
