"""A run of a program, in either way of working: its sends, activations, processes and end."""

from imagetalk.image import Image
from imagetalk.telling import told
from imagetalk.things import Activation, Closure, Refused, Rule, Stopped, Strand, Thing
from imagetalk.turning import end_strand, go_on_with, take_turn, work_remains
from imagetalk.ways import go_on_way, leave, stands

MOST_DEPTH = 100
MOST_ROUNDS = 5000


class Run(Image):
    """A run, at its beginning at first. What works its activations is told by the classes below."""

    def __init__(self, stock, most_sends, in_place):
        super().__init__(stock)
        self.in_place = in_place
        self.most_sends = most_sends
        self.sent = 0
        self.messages = []
        self.output = ""
        self.rounds = 0
        self.begun = 0
        self.deepest = 0
        self.ending = None
        self.final = None
        main = Strand(0, None)
        self.strands = [main]
        self.ready = []
        self.going = main
        self.acts = main.acts

    def start(self):
        """Literals are made, and main begins."""
        self.put_all_literals()
        self.begin(self.stock.main, None, (), "process")

    def prepared(self, method, is_main, in_place):
        """The body of a method, as this way of working has it."""
        raise NotImplementedError("told by the classes below")

    def steps_of(self, body):
        """What an activation of a body has to do."""
        raise NotImplementedError("told by the classes below")

    def outcome(self):
        """The outcome of a run that has ended."""
        kind, word = self.ending
        return (kind, word, self.output, self.sent)

    def end(self, kind, word):
        """The run has ended."""
        self.ending = (kind, word)

    def end_main(self, value):
        """The run has ended with this value."""
        self.final = value
        main = self.strands[0]
        main.gone = True
        self.end("value", told(value))

    def fail(self, exception):
        """The process that goes on ends by an Error that has no handler."""
        strand = self.going
        if strand.number > 0:
            self.end_other()
            return
        word = exception.kind.name
        text = exception.parts[0]
        if isinstance(text, Thing) and (text.is_a("String") or text.is_a("Symbol")):
            word += ": " + text.data
        strand.gone = True
        self.end("error", word)

    def end_process(self, value):
        """The process that goes on ends with this value."""
        if self.going.number == 0:
            self.end_main(value)
        else:
            self.end_other()

    def end_other(self):
        """The process that goes on, which is not main, ends with all its activations."""
        if end_strand(self.going):
            self.end_main(None)
        else:
            take_turn(self)

    def turn(self):
        """A turn has come: the first of the processes that are ready goes on."""
        go_on_with(self, 0)

    def push(self, act):
        """An activation begins on top of the others."""
        acts = self.acts
        level = len(acts)
        if level >= MOST_DEPTH:
            raise Stopped("depth")
        act.level = level
        act.process = self.going.number
        acts.append(act)
        self.begun += 1
        if level >= self.deepest:
            self.deepest = level + 1

    def begin(self, method, receiver, arguments, after):
        """An activation of a method begins."""
        body = method.body
        if body is None:
            self.prepare(method, after == "process")
            body = method.body
        act = Activation(method, body, receiver, new_cells(body, arguments), self.steps_of(body))
        act.after = after
        self.push(act)

    def prepare(self, method, is_main):
        """Gives a method its body: those of the kernel are always made in place."""
        own = is_main or method.kind.name in self.stock.book.methods
        method.body = self.prepared(method, is_main, self.in_place or not own)

    def work(self, block, arguments, after):
        """An activation of a Block begins."""
        closure = block.data
        around = closure.around
        body = closure.body
        act = Activation(around.method, body, around.receiver, new_cells(body, arguments), self.steps_of(body))
        act.kind = "block"
        act.around = around
        act.block = block
        act.after = after
        self.push(act)
        return act

    def make_block(self, act, number):
        """A new Block of the written block with this number in the body of an activation."""
        return self.new_thing(self.kind_named("Block"), Closure(number, act.body[3][number], act))

    def deliver(self, value):
        """The topmost activation goes on with the answer to what it has sent."""
        act = self.acts[-1]
        if act.waits:
            self.answer(value)
        else:
            act.pile.append(value)

    def answer(self, value):
        """The topmost activation ends with a value."""
        act = self.acts.pop()
        after = act.after
        if after is None:
            sender = self.acts[-1]
            if sender.waits:
                self.answer(value)
            else:
                sender.pile.append(value)
        elif after == "process":
            self.end_process(value)
        elif after == "receiver":
            self.end_receiver(value)
        elif after == "argument":
            self.answer(self.acts[-1].kept)
        elif after == "way":
            go_on_way(self, act.held)
        elif after == "handler":
            leave(self, act.held.guard.level, "return", value)
        else:
            work_remains(self, act.held)

    def end_receiver(self, value):
        """The receiver of ensure:, ifCurtailed: or on:do: has answered a value."""
        guard = self.acts[-1]
        if guard.kind != "ensure":
            self.answer(value)
            return
        guard.begun = True
        guard.kept = value
        self.work(guard.argument, (), "argument")

    def return_home(self, act, value):
        """The Block of the topmost activation returns a value from its home."""
        home = act
        while home.around is not None:
            home = home.around
        if stands(self, home):
            leave(self, home.level, "return", value)
        else:
            act.waits = True
            self.send(act.block, "cannotReturn:", (value,))

    def count_round(self):
        """A loop that is done in place goes round once more."""
        if self.rounds >= MOST_ROUNDS:
            raise Stopped("rounds")
        self.rounds += 1

    def send(self, receiver, selector, arguments):
        """Sends a message."""
        kind = self.kind_of(receiver)
        self.send_from(kind, receiver, kind, selector, arguments)

    def send_from(self, start, receiver, kind, selector, arguments):
        """Sends a message to an instance of a class, looked up from another class on."""
        if self.sent >= self.most_sends:
            raise Stopped("sends")
        self.sent += 1
        self.messages.append((len(self.acts), kind.name, selector))
        # Most methods have been found before.
        stock = self.stock
        method = stock.known.get((start.name, selector))
        if method is None:
            method = stock.method_for(start, selector)
        if method is None:
            message = self.new_message(selector, arguments)
            self.send_from(start, receiver, kind, "doesNotUnderstand:", (message,))
        elif isinstance(method, Rule):
            self.work_rule(method, receiver, arguments)
        else:
            self.begin(method, receiver, arguments, None)

    def work_rule(self, rule, receiver, arguments):
        """Does what a message asks for by rule, or signals what it is refused with."""
        action = rule.action
        try:
            answer = action(self, receiver, *arguments)
        except Refused as refusal:
            exception = self.new_instance(self.kind_named(refusal.word))
            self.send(exception, "signal", ())
            return
        if rule.direct:
            self.acts[-1].pile.append(answer)

    def new_message(self, selector, arguments):
        """A Message that is not understood."""
        symbol = self.new_symbol(selector)
        message = self.new_instance(self.kind_named("Message"))
        message.parts = [symbol, self.new_array(list(arguments))]
        return message


def new_cells(body, arguments):
    """The variables of a new activation of a body."""
    cells = list(arguments)
    return cells + [None] * (body[1] - body[0]) if body[1] > body[0] else cells
