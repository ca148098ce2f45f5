"""How a run goes on to what is waited for, code by code."""

from imagetalk.counts import MOST_CODES_DONE
from imagetalk.errors import Late
from imagetalk.moments import GUARDED
from imagetalk.things import Guard
from imagetalk.ways import gives_up_main


def stands_in(strand, act):
    """Whether an activation of a process has not ended."""
    return act.index < len(strand.acts) and strand.acts[act.index] == act


def late():
    """Refuses to go on any longer."""
    raise Late("too many codes")


def go_into(run):
    """Goes on until an activation begins or ends; whether that came ahead of the end."""
    for _ in range(MOST_CODES_DONE):
        acts = run.acts
        many = len(acts)
        begun = run.begun
        run.go(1)
        if run.begun > begun or len(acts) < many:
            return True
        if run.ending is not None:
            return False
    return late()


def go_over(run):
    """Goes on until the topmost activation is on top again or has ended; whether that came ahead of the end."""
    strand = run.going
    act = strand.acts[-1]
    for _ in range(MOST_CODES_DONE):
        run.go(1)
        if not stands_in(strand, act):
            return True
        if run.ending is not None:
            return False
        if run.going == strand and strand.acts[-1] == act:
            return True
    return late()


def go_out(run):
    """Goes on until the topmost activation has ended; whether that came ahead of the end of the run."""
    strand = run.going
    act = strand.acts[-1]
    for _ in range(MOST_CODES_DONE):
        run.go(1)
        if not stands_in(strand, act):
            return True
        if run.ending is not None:
            return False
    return late()


def go_to_method(run, name, selector):
    """Goes on until an activation of a method begins; whether that came ahead of the end."""
    for _ in range(MOST_CODES_DONE):
        begun = run.begun
        run.go(1)
        newest = run.acts[len(run.acts) - (run.begun - begun):]
        if any([is_activation_of(act, name, selector) for act in newest]):
            return True
        if run.ending is not None:
            return False
    return late()


def is_activation_of(act, name, selector):
    """Whether an activation is one of the method that a class itself has."""
    if isinstance(act, Guard):
        return name == "Block" and selector == GUARDED[act.kind]
    return act.kind == "method" and act.method.kind.name == name and act.method.selector == selector


def go_until(run, count):
    """Goes on until so many codes are done in all; whether that came ahead of the end."""
    run.go(min(count - run.done, MOST_CODES_DONE))
    if run.done == count:
        return True
    return late() if run.ending is None else False


def restart_act(run, number):
    """The activation with this number in the process that goes on begins anew; those above it are given up."""
    act = run.acts[number]
    dropped = run.acts[number + 1:]
    del run.acts[number + 1:]
    parameters, many = act.body[:2]
    act.place = 0
    act.pile = []
    act.cells = act.cells[:parameters] + [None] * (many - parameters)
    act.waits = False
    if any([gives_up_main(above) for above in dropped]):
        run.end_main(None)
