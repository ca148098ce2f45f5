"""A desk: a program that is changed, run and asked about by rows of text."""

from imagetalk.book import CLASS_WORD
from imagetalk.classes import lookup, method_of, parent_of
from imagetalk.codes import codes_many
from imagetalk.counts import MOST_SENDS
from imagetalk.deskrows import read_row
from imagetalk.errors import NoMethod, NothingToUndo
from imagetalk.machine import machine, machine_trace
from imagetalk.maker import made_of
from imagetalk.parsing import parsed_method
from imagetalk.programs import changed_by_own_fields, with_class, with_main, with_method, without_method
from imagetalk.programread import read_program
from imagetalk.reach import not_understood
from imagetalk.reaching import reach_of
from imagetalk.trees import write_method
from imagetalk.walk import walk, walk_trace

OK = "ok"


def say_class(desk, parts):
    """A new class without methods."""
    return desk.change(with_class(desk.held, parts[0], parts[1], parts[2:]))


def say_fields(desk, parts):
    """A class has other fields."""
    return desk.change(changed_by_own_fields(desk.held, parts[0], parts[1:]))


def say_method(desk, parts):
    """A class has a method."""
    name, source = parts
    parsed_method(source)
    return desk.change(with_method(desk.held, name, source))


def say_class_method(desk, parts):
    """The NAME class of a class has a method."""
    return say_method(desk, (parts[0] + CLASS_WORD, parts[1]))


def say_drop(desk, parts):
    """A class has a method no more."""
    return desk.change(without_method(desk.held, parts[0], parts[1]))


def say_main(desk, parts):
    """The program has another main."""
    return desk.change(with_main(desk.held, parts[0]))


def say_run(desk, parts):
    """The outcome by the machine."""
    return desk.tell(machine(desk.held, MOST_SENDS))


def say_walk(desk, parts):
    """The outcome by the walk."""
    return desk.tell(walk(desk.held, MOST_SENDS))


def say_do(desk, parts):
    """The outcome with another main for once."""
    return desk.tell(machine(with_main(desk.held, parts[0]), MOST_SENDS))


def say_shown(desk, parts):
    """What was shown."""
    return desk.output


def say_sends(desk, parts):
    """How many sends there were."""
    return str(desk.sent)


def say_codes(desk, parts):
    """How many codes a method has."""
    return str(codes_many(made_of(desk.held, parts[0], parts[1])))


def say_source(desk, parts):
    """The text of a method."""
    tree = method_of(desk.held, parts[0], parts[1])
    if tree is None:
        raise NoMethod("no method with a source that the class itself has")
    return write_method(tree)


def say_reached(desk, parts):
    """How many methods of the program are reached."""
    reach = reach_of(read_program(desk.held))
    return str(len([key for key in reach.ledger.own_keys() if key in reach.methods]))


def say_lost(desk, parts):
    """The first message that nothing understands."""
    rows = not_understood(desk.held)
    return " ".join([word for word in rows[0] if word != ""]) if rows else "none"


def say_parent(desk, parts):
    """The parent of a class."""
    return class_or_no(parent_of(desk.held, parts[0]))


def say_understands(desk, parts):
    """The class that has a method for a selector."""
    return class_or_no(lookup(desk.held, parts[0], parts[1]))


def class_or_no(name):
    """The name of a class, or the word for none."""
    return "no" if name is None else name


def say_same(desk, parts):
    """Whether both ways of working tell the same."""
    program = desk.held
    same = machine(program, MOST_SENDS) == walk(program, MOST_SENDS)
    return "yes" if same and machine_trace(program, MOST_SENDS) == walk_trace(program, MOST_SENDS) else "no"


def say_undo(desk, parts):
    """The last change is taken back."""
    if not desk.past:
        raise NothingToUndo("no change to take back")
    desk.held = desk.past.pop()
    return OK


ANSWERS = {
    "class": say_class,
    "fields": say_fields,
    "method": say_method,
    "classmethod": say_class_method,
    "drop": say_drop,
    "main": say_main,
    "run": say_run,
    "walk": say_walk,
    "do": say_do,
    "shown": say_shown,
    "sends": say_sends,
    "codes": say_codes,
    "source": say_source,
    "reached": say_reached,
    "lost": say_lost,
    "parent": say_parent,
    "understands": say_understands,
    "same": say_same,
    "undo": say_undo,
}


class Desk:
    """A program, the programs that it was, and what its last run showed."""

    def __init__(self):
        self.held = ((), "")
        self.past = []
        self.output = ""
        self.sent = 0

    def say(self, row):
        """Answers a row."""
        word, parts = read_row(row)
        answer = ANSWERS[word]
        return answer(self, parts)

    def program(self):
        """The program."""
        return self.held

    def change(self, program):
        """The program becomes another one."""
        if program != self.held:
            self.past.append(self.held)
            self.held = program
        return OK

    def tell(self, outcome):
        """Tells of an outcome, and keeps what was shown and sent."""
        kind, word, self.output, self.sent = outcome
        return f"{kind} {word}"
