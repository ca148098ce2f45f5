"""The walk: the steps of a tree are done from a list that each activation has, on which those that are chosen come."""

from imagetalk.deeds import DEEDS
from imagetalk.plans import POP, planned
from imagetalk.run import Run
from imagetalk.things import Stopped


class Walk(Run):
    """A run that goes over trees."""

    def prepared(self, method, is_main, in_place):
        """The plan of a method."""
        plan, _ = planned(method.parsed, method.kind.field_names, is_main, in_place, False)
        return plan

    def steps_of(self, body):
        """The steps that an activation has to do, the last one first."""
        return list(body[2])

    def go(self):
        """Goes on to the end of the run."""
        actions = dict(DEEDS)
        actions["choose"] = choose
        actions["loop"] = begin_loop
        actions["judge"] = judge
        actions["round"] = go_round
        try:
            while self.ending is None:
                act = self.acts[-1]
                step = act.steps.pop()
                action = actions[step[0]]
                action(self, act, step)
        except Stopped as stop:
            self.end("stopped", stop.word)


def choose(run, act, step):
    """Goes through one part or the other one."""
    _, wanted, chosen, other = step
    value = act.pile.pop()
    if not isinstance(value, bool):
        run.send(value, "mustBeBoolean", ())
    elif value == wanted:
        act.steps.extend(chosen)
    else:
        act.steps.extend(other)


def begin_loop(run, act, step):
    """Goes through the part that is judged."""
    act.steps.append(("judge", step))
    act.steps.extend(step[1])


def judge(run, act, step):
    """Goes through the other part, or leaves the loop."""
    loop = step[1]
    value = act.pile.pop()
    if not isinstance(value, bool):
        run.send(value, "mustBeBoolean", ())
    elif value == loop[2]:
        act.steps.append(("round", loop))
        act.steps.append(POP)
        act.steps.extend(loop[3])
    else:
        act.pile.append(None)


def go_round(run, act, step):
    """The loop goes round."""
    run.count_round()
    begin_loop(run, act, step[1])
