"""Runs copied: a twin stands where the run stands, and goes on apart from it.

Symbols, and the classes that hold nothing, never change, and so both share them.
"""

from imagetalk.things import Activation, Closure, Guard, Handling, Kind, Remains, Signals, Strand, Thing, Way


def twin(run, other):
    """Lets another run, that is new, stand where this one stands."""
    copier = Twin(run, other)
    copier.copy_all()
    return other


class Twin:
    """A run that is copied to another one, and what of it stands for what."""

    def __init__(self, run, other):
        self.run = run
        self.other = other
        self.things = {}
        self.acts = {}
        self.strands = []

    def copy_all(self):
        """Copies all that the run holds."""
        self.strands = [Strand(strand.number, None) for strand in self.run.strands]
        pairs = [(thing, new_thing(thing)) for thing in self.run.classes.values() if thing.data.own]
        pairs.extend([(thing, new_thing(thing)) for thing in self.run.things if thing.kind.name != "Symbol"])
        self.things = {thing: there for thing, there in pairs}
        for strand in self.run.strands:
            for act in strand.acts:
                self.act_of(act)
        for thing, there in pairs:
            if thing.parts:
                there.parts = self.values_of(thing.parts)
            if thing.data is not None and not isinstance(thing.data, (str, Kind)):
                there.data = self.data_of(thing.data)
        self.copy_strands()
        self.copy_rest()

    def value_of(self, value):
        """What stands for a value."""
        return self.things.get(value, value)

    def values_of(self, values):
        """What stands for several values."""
        things = self.things
        return [things.get(value, value) for value in values]

    def strand_of(self, strand):
        """What stands for a process."""
        return None if strand is None else self.strands[strand.number]

    def data_of(self, data):
        """What stands for the data of an Array, a Block, a Process or a Semaphore."""
        if isinstance(data, list):
            return self.values_of(data)
        if isinstance(data, Closure):
            return Closure(data.number, data.body, self.chain_of(data.around))
        if isinstance(data, Strand):
            return self.strand_of(data)
        signals = Signals()
        signals.count = data.count
        signals.waiting = [self.strand_of(strand) for strand in data.waiting]
        return signals

    def chain_of(self, act):
        """What stands for an activation in which a Block was made; it and those around it are copied first."""
        first = act
        while act is not None and act not in self.acts:
            self.fill_act(act, self.act_of(act))
            act = act.around
        return self.acts[first]

    def act_of(self, act):
        """What stands for an activation, new if there was none."""
        if act not in self.acts:
            if isinstance(act, Guard):
                self.acts[act] = Guard(act.kind, None, None, act.caught)
            else:
                self.acts[act] = Activation(act.method, act.body, None, [], act.steps)
        return self.acts[act]

    def fill_act(self, act, there):
        """Copies what an activation of a method or a Block holds for good, whether it has ended or not."""
        there.kind = act.kind
        there.receiver = self.value_of(act.receiver)
        there.block = self.value_of(act.block)
        there.cells = self.values_of(act.cells)
        there.level = act.level
        there.process = act.process
        there.place = act.place

    def copy_strands(self):
        """Copies the processes with their activations."""
        for strand, there in zip(self.run.strands, self.strands):
            there.thing = self.value_of(strand.thing)
            there.block = self.value_of(strand.block)
            there.comes = self.value_of(strand.comes)
            there.waits_at = self.value_of(strand.waits_at)
            there.gone = strand.gone
            there.made = strand.made
            there.acts = [self.acts[act] for act in strand.acts]
            for act in strand.acts:
                self.fill_standing(act, self.acts[act])
        for act, there in self.acts.items():
            if isinstance(act, Activation) and act.around is not None:
                there.around = self.acts[act.around]

    def fill_standing(self, act, there):
        """Copies what an activation holds that has not ended."""
        if isinstance(act, Guard):
            there.block = self.value_of(act.block)
            there.argument = self.value_of(act.argument)
            there.begun = act.begun
            there.kept = self.value_of(act.kept)
            there.level = act.level
            there.process = act.process
            return
        self.fill_act(act, there)
        if act.around is not None:
            self.chain_of(act.around)
        there.pile = self.values_of(act.pile)
        there.after = act.after
        there.held = self.held_of(act.held)
        there.waits = act.waits

    def held_of(self, held):
        """What stands for the way out, the handling or the arguments to which an activation belongs."""
        if isinstance(held, Way):
            return Way(held.low, held.arrival, self.value_of(held.carried))
        if isinstance(held, Handling):
            return Handling(self.value_of(held.exception), self.acts[held.guard])
        if isinstance(held, Remains):
            return Remains(self.strand_of(held.strand), self.values_of(held.blocks))
        return None

    def copy_rest(self):
        """Copies what the run itself holds."""
        run, other = self.run, self.other
        other.things = self.values_of(run.things)
        other.classes = {name: self.value_of(thing) for name, thing in run.classes.items()}
        other.symbols = dict(run.symbols)
        other.literals = {method: self.values_of(values) for method, values in run.literals.items()}
        other.made = run.made
        other.sent = run.sent
        other.messages = list(run.messages)
        other.output = run.output
        other.rounds = run.rounds
        other.begun = run.begun
        other.deepest = run.deepest
        other.done = run.done
        other.ending = run.ending
        other.final = self.value_of(run.final)
        other.strands = self.strands
        other.ready = [self.strand_of(strand) for strand in run.ready]
        other.going = self.strand_of(run.going)
        other.acts = [] if other.going is None else other.going.acts


def new_thing(thing):
    """An object of the same class, with the same signs or the same Kind, that was made by the same process."""
    there = Thing(thing.kind, thing.data)
    if thing.maker >= 0 or thing.serial > 0:
        there.maker = thing.maker
        there.serial = thing.serial
    return there
