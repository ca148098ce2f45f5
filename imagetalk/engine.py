"""The machine: the codes of the topmost activation are done one by one."""

from imagetalk.deeds import DEEDS, return_home, taken
from imagetalk.plans import planned
from imagetalk.run import Run
from imagetalk.things import Stopped

# More codes than any run has.
NO_END = 1000000000000


def begun(stock, sends, in_place):
    """The run of a program, at its beginning."""
    run = Machine(stock, sends, in_place)
    run.start()
    return run


class Machine(Run):
    """A run that goes over codes."""

    def __init__(self, stock, most_sends, in_place):
        super().__init__(stock, most_sends, in_place)
        self.done = 0
        self.actions = dict(DEEDS)
        self.actions["jump"] = jump
        self.actions["test"] = test
        self.actions["return"] = return_from_block
        self.actions["tail"] = tail
        self.actions["tailsuper"] = tail_super

    def prepared(self, method, is_main, in_place):
        """The body of a method, made of its tree."""
        plan, _ = planned(method.parsed, method.kind.field_names, is_main, in_place, True)
        return plan

    def steps_of(self, body):
        """The codes that an activation has to do."""
        return body[2]

    def go(self, count):
        """Does so many codes, or fewer if the run ends."""
        if self.ending is not None:
            return
        actions = self.actions
        done = self.done
        try:
            for done in range(done + 1, done + count + 1):
                act = self.acts[-1]
                place = act.place
                code = act.steps[place]
                act.place = place + 1
                action = actions[code[0]]
                action(self, act, code)
                if self.ending is not None:
                    break
        except Stopped as stop:
            self.end("stopped", stop.word)
        finally:
            self.done = done


def go_to(run, act, place):
    """Goes on at a place; one that is not above the code's own is a round."""
    if place < act.place:
        run.count_round()
    act.place = place


def jump(run, act, code):
    """Goes on elsewhere."""
    go_to(run, act, code[1])


def test(run, act, code):
    """Goes on here, or elsewhere, as a value tells."""
    _, wanted, other, out = code
    value = act.pile.pop()
    if not isinstance(value, bool):
        go_to(run, act, out)
        run.send(value, "mustBeBoolean", ())
    elif value != wanted:
        go_to(run, act, other)


def return_from_block(run, act, code):
    """The return of a Block, at which it stays if it has to wait."""
    act.place -= 1
    return_home(run, act, code)


def tail(run, act, code):
    """Ends the activation and sends a message."""
    arguments = taken(act.pile, code[2])
    receiver = act.pile.pop()
    run.acts.pop()
    run.send(receiver, code[1], arguments)


def tail_super(run, act, code):
    """Ends the activation and sends a message to super."""
    arguments = taken(act.pile, code[2])
    receiver = act.pile.pop()
    run.acts.pop()
    run.send_from(act.method.kind.parent, receiver, run.kind_of(receiver), code[1], arguments)
