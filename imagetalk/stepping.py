"""How a run goes on to what is waited for, code by code."""

from imagetalk.counts import MOST_CODES_DONE
from imagetalk.errors import Late
from imagetalk.moments import GUARDED
from imagetalk.things import Guard
from imagetalk.ways import gives_up_main


def stands_in(strand, act):
    """Whether an activation of a process has not ended."""
    return act.level < len(strand.acts) and strand.acts[act.level] == act


class Moment:
    """What is told of a run ahead of a code: the activations of the process that goes on, and how many have begun."""

    def __init__(self, run):
        self.acts = run.acts
        self.many = len(run.acts)
        self.begun = run.begun


def go_by_codes(run, has_come):
    """Goes on until something has come, as is told behind each code; whether that came ahead of the end."""
    for _ in range(MOST_CODES_DONE):
        before = Moment(run)
        run.go(1)
        if has_come(before):
            return True
        if run.ending is not None:
            return False
    raise Late("too many codes")


def go_into(run):
    """Goes on until an activation begins or ends."""
    def has_come(before):
        """Whether the code has begun or ended one."""
        return run.begun > before.begun or len(before.acts) < before.many
    return go_by_codes(run, has_come)


def go_over(run):
    """Goes on until the topmost activation is on top again or has ended."""
    strand = run.going
    act = strand.acts[-1]

    def has_come(before):
        """Whether it is on top, or has ended."""
        if not stands_in(strand, act):
            return True
        return run.ending is None and run.going == strand and strand.acts[-1] == act
    return go_by_codes(run, has_come)


def go_out(run):
    """Goes on until the topmost activation has ended."""
    strand = run.going
    act = strand.acts[-1]

    def has_come(before):
        """Whether it has ended."""
        return not stands_in(strand, act)
    return go_by_codes(run, has_come)


def go_to_method(run, name, selector):
    """Goes on until an activation of a method begins."""
    def has_come(before):
        """Whether the code has begun one."""
        newest = run.acts[len(run.acts) - (run.begun - before.begun):]
        return any([is_activation_of(act, name, selector) for act in newest])
    return go_by_codes(run, has_come)


def is_activation_of(act, name, selector):
    """Whether an activation is one of the method that a class itself has."""
    if isinstance(act, Guard):
        return name == "Block" and selector == GUARDED[act.kind]
    return act.kind == "method" and act.method.kind.name == name and act.method.selector == selector


def go_until(run, count):
    """Goes on until so many codes are done in all; whether that came ahead of the end."""
    run.go(min(count - run.done, MOST_CODES_DONE))
    if run.done < count and run.ending is None:
        raise Late("too many codes")
    return run.done == count


def restart_act(run, number):
    """The activation with this number in the process that goes on begins anew; those above it are given up."""
    act = run.acts[number]
    dropped = run.acts[number + 1:]
    del run.acts[number + 1:]
    parameters, many = act.body[:2]
    act.place = 0
    act.pile = []
    act.cells = act.cells[:parameters] + [None] * (many - parameters)
    act.waits = False
    if any([gives_up_main(above) for above in dropped]):
        run.end_main(None)
