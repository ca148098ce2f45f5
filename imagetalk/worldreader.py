"""Texts of worlds to runs."""

from imagetalk.book import CLASS_WORD
from imagetalk.codes import all_bodies
from imagetalk.codetexts import read_made
from imagetalk.counts import MOST_SENDS
from imagetalk.engine import Machine
from imagetalk.errors import BadWorld
from imagetalk.programread import read_program
from imagetalk.stock import Stock
from imagetalk.things import Activation, Closure, Guard, Handling, Method, Remains, Signals, Strand, Thing, Way
from imagetalk.worldwriter import HEAD, ROW_END, current_method

GUARDS = ("ensure", "curtail", "handle")
ACT = "act "


def run_of_text(text):
    """The run of which this is the text."""
    if not isinstance(text, str):
        raise BadWorld("not a text")
    head, _, rest = text.partition(ROW_END)
    sizes, _, body = rest.partition(ROW_END)
    rows = body.split(ROW_END)
    if head != HEAD or sizes != f"{len(rows)} {len(body)}":
        raise BadWorld("not a text of a World")
    reader = WorldReader([plain(row) for row in rows] if "\\" in body else rows)
    reader.read_all()
    return reader.run


def plain(row):
    """A row as it was ahead of escaping."""
    parts = row.split("\\\\")
    return "\\".join([part.replace("\\n", "\n").replace("\\t", ROW_END) for part in parts])


class WorldReader:
    """The rows of a World, how many of them have been read, and what has been made of them."""

    def __init__(self, rows):
        self.rows = rows
        self.at = 0
        self.run = None
        self.named = {"n": None, "t": True, "f": False}
        self.made = []
        self.methods = {}
        self.bodies = {}
        self.waiting = []

    def next_row(self):
        """The row that comes next."""
        self.at += 1
        return self.rows[self.at - 1]

    def next_rows(self, many):
        """So many rows that come next."""
        self.at += many
        return self.rows[self.at - many:self.at]

    def next_numbers(self):
        """The numbers in the row that comes next."""
        return [int(word) for word in self.next_row().split()]

    def read_all(self):
        """Makes the run of all rows."""
        program = self.read_program()
        book = read_program(program)
        for key, parsed in book.sources.items():
            parsed.text = key if isinstance(key, str) else key[0]
        run = Machine(Stock(program, book, {}), MOST_SENDS, True)
        self.run = run
        run.output = self.next_row()
        run.sent, run.made, run.rounds, many = self.next_numbers()
        run.messages = self.messages_in(self.next_rows(many))
        self.made = [self.next_rows(3) for _ in range(self.next_numbers()[0])]
        act_rows = self.read_processes()
        self.read_objects(act_rows)

    def messages_in(self, rows):
        """The messages of which these are the rows, many of them perhaps alike."""
        known = {}
        for row in rows:
            if row not in known:
                depth, selector, name = row.split(" ", 2)
                known[row] = (int(depth), name, selector)
        return [known[row] for row in rows]

    def read_program(self):
        """The program."""
        classes = []
        for _ in range(self.next_numbers()[0]):
            name, parent, fields, class_fields = self.next_rows(4)
            many, class_many = self.next_numbers()
            methods = tuple(self.next_rows(many))
            class_methods = tuple(self.next_rows(class_many))
            classes.append((name, parent, tuple(fields.split()), tuple(class_fields.split()), methods, class_methods))
        return (tuple(classes), self.next_row())

    def read_processes(self):
        """Makes the processes, with activations that hold nothing yet; returns the row of each activation."""
        run = self.run
        if self.next_row() == "end":
            run.ending = tuple(self.next_rows(2))
        head, ready = self.next_row().split(" |")
        many, going = head.split()
        run.strands = [Strand(number, None) for number in range(int(many))]
        run.ready = [run.strands[int(word)] for word in ready.split()]
        run.going = run.strands[0 if going == "-" else int(going)]
        self.waiting = [self.next_numbers() for _ in range(self.next_numbers()[0])]
        rows = []
        for strand in run.strands:
            gone, acts = self.next_numbers()
            strand.gone = gone == 1
            for row in self.next_rows(acts):
                act = new_act(row)
                act.level = len(strand.acts)
                act.process = strand.number
                self.named[f"a{strand.number}.{act.level}"] = act
                strand.acts.append(act)
                rows.append((act, row))
        run.acts = run.going.acts
        return rows

    def read_objects(self, act_rows):
        """Makes the objects, and puts all in its place."""
        run = self.run
        symbols, nodes = self.next_numbers()
        for number, text in enumerate(self.next_rows(symbols)):
            self.named[f"s{number}"] = run.symbol_there(text)
        own = self.next_rows(len(run.stock.book.own_names))
        methods = [method for method in run.stock.methods_with_literals() if method.trees]
        literals = self.next_rows(len(methods))
        strands = [(self.next_row(), self.next_rows(len(strand.acts))) for strand in run.strands]
        final = self.next_row()
        node_rows = self.next_rows(nodes)
        self.make_nodes(node_rows)
        for name, row in zip(run.stock.book.own_names, own):
            if row:
                thing = run.class_named(name)
                thing.parts = self.all_values(row)
        for method, row in zip(methods, literals):
            run.literals[method] = self.all_values(row)
        run.final = self.value(final)
        self.fill_acts(act_rows, [row for _, rows in strands for row in rows], node_rows)
        for number, row in enumerate(node_rows):
            if not row.startswith(ACT):
                self.fill_thing(self.named[f"o{number}"], row)
        self.fill_strands([row for row, _ in strands])

    def value(self, word):
        """The value for which a word stands."""
        if word not in self.named:
            self.named[word] = self.unnamed_value(word)
        return self.named[word]

    def unnamed_value(self, word):
        """The integer or the class for which a word stands."""
        if word.startswith("i"):
            return int(word[1:])
        return self.run.class_named(word[1:] if word.startswith("c") else word[1:] + CLASS_WORD)

    def all_values(self, row):
        """The values for which the words of a row stand."""
        named = self.named
        return [named[word] if word in named else self.value(word) for word in row.split()]

    def make_nodes(self, rows):
        """Makes objects, and activations that have ended, that hold nothing yet."""
        stock = self.run.stock
        for number, row in enumerate(rows):
            if row.startswith(ACT):
                node = new_act(row.removeprefix(ACT))
            else:
                name, _, _ = row.partition(" ")
                node = self.run.put(Thing(stock.kind_named(name), None))
            self.named[f"o{number}"] = node

    def fill_acts(self, act_rows, value_rows, node_rows):
        """Gives the activations what they hold."""
        for (act, row), values in zip(act_rows, value_rows):
            if isinstance(act, Guard):
                act.block, act.argument, act.kept = self.all_values(values)
            else:
                first, cells, literals, pile, held = values.split(" |")
                self.fill_act(act, row, (first, cells, literals))
                act.pile = self.all_values(pile)
                self.fill_standing(act, row.split()[3:], self.all_values(held))
        for number, row in enumerate(node_rows):
            if row.startswith(ACT):
                head, first, cells, literals = row.split(" |")
                self.fill_act(self.named[f"o{number}"], head.removeprefix(ACT), (first, cells, literals))

    def fill_act(self, act, row, parts):
        """Gives an activation of a method or a Block what it holds for good."""
        number, body = [int(word) for word in row.split()[1:3]]
        first, cells, literals = parts
        act.method = self.method_of(number, literals)
        act.body = self.body_of(act.method, body)
        act.steps = act.body[2]
        act.receiver, act.block, act.around = self.all_values(first)
        act.cells = self.all_values(cells)

    def body_of(self, method, number):
        """The body with this number in a method."""
        if method not in self.bodies:
            self.bodies[method] = all_bodies(method.body)
        return self.bodies[method][number]

    def method_of(self, number, row):
        """The method with this number among those at work, with these literals."""
        key = (number, row)
        if key not in self.methods:
            self.methods[key] = self.new_method(number, self.all_values(row))
        return self.methods[key]

    def new_method(self, number, literals):
        """As method_of, for the first time."""
        name, selector, text = self.made[number]
        run = self.run
        if text == "":
            method = current_method(run, name, selector)
            if run.literals.get(method, []) == literals:
                return method
            trees, body = method.trees, method.body
        else:
            _, trees, body = read_made(text)
        method = Method(run.kind_named(name), selector, None, trees)
        method.body = body
        run.literals[method] = literals
        return method

    def fill_standing(self, act, words, held):
        """Gives an activation what it holds that has not ended."""
        act.place = int(words[0])
        act.waits = words[1] == "1"
        act.after = None if words[2] == "-" else words[2]
        if act.after == "way":
            act.held = Way(int(words[3]), words[4], held[0])
        elif act.after == "handler":
            strand = self.run.strands[act.process]
            act.held = Handling(held[0], strand.acts[int(words[3])])
        elif act.after == "ended":
            strand = self.run.strands[int(words[3])]
            strand.thing = held[0]
            act.held = Remains(strand, held[1:])

    def fill_thing(self, thing, row):
        """Gives an object what it holds."""
        name, _, rest = row.partition(" ")
        if name == "String":
            thing.data = rest
        elif name == "Array":
            thing.data = self.all_values(rest)
        elif name == "Block":
            number, around = rest.split()
            act = self.named[around]
            body = self.body_of(act.method, int(number))
            thing.data = Closure(act.body[3].index(body), body, act)
        elif name == "Process":
            strand = self.run.strands[int(rest)]
            strand.thing = thing
            thing.data = strand
        elif name == "Semaphore":
            signals = Signals()
            signals.count = int(rest)
            thing.data = signals
        else:
            thing.parts = self.all_values(rest)

    def fill_strands(self, rows):
        """Gives the processes what they hold beside their activations."""
        strands = self.run.strands
        for strand, row in zip(strands, rows):
            if not strand.gone:
                strand.thing, strand.block, strand.comes = self.all_values(row)
        for numbers in self.waiting:
            waiting = [strands[number] for number in numbers]
            semaphore = waiting[0].comes
            signals = semaphore.data
            signals.waiting = waiting
            for strand in waiting:
                strand.waits_at = semaphore


def new_act(row):
    """An activation of which this is the row, that holds nothing yet."""
    kind, _, rest = row.partition(" ")
    if kind not in GUARDS:
        act = Activation(None, None, None, [], ())
        act.kind = kind
        return act
    guard = Guard(kind, None, None, rest if kind == "handle" else None)
    guard.begun = rest == "1"
    return guard
