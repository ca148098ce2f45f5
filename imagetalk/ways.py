"""Ways out of activations, and handlers of exceptions, in the process that goes on."""

from imagetalk.things import Handling, Way


def leave(run, low, arrival, value):
    """A way out begins; it ends at the activation at this place, at -1 if all are left."""
    go_on_way(run, Way(low, arrival, value))


def go_on_way(run, way):
    """Activations end from the top on, up to the next argument of ensure: or ifCurtailed:, or to where the way ends."""
    acts = run.acts
    while len(acts) - 1 > way.low:
        act = acts[-1]
        if act.kind in ("ensure", "curtail") and not act.begun:
            act.begun = True
            argument = run.work(act.argument, (), "way")
            argument.held = way
            return
        acts.pop()
        if gives_up_main(act):
            run.end_main(None)
            return
    arrive(run, way)


def gives_up_main(act):
    """Whether main, which was ended, ends the run as this activation ends."""
    return act.after == "ended" and act.held.strand.number == 0


def arrive(run, way):
    """All activations are left that a way out leaves."""
    if way.arrival == "return":
        run.answer(way.carried)
    elif way.arrival == "resume":
        run.deliver(way.carried)
    elif way.arrival == "retry":
        run.work(run.acts[-1].block, (), "receiver")
    else:
        run.end_process(None)


def stands(run, act):
    """Whether an activation is one of the process that goes on."""
    return act.level < len(run.acts) and run.acts[act.level] == act


def handler_for(run, exception, bound):
    """The nearest activation of on:do: below this place that is a handler for an exception, None if there is none."""
    line = exception.kind.line
    lowest = len(run.acts)
    for act in reversed(run.acts):
        if act.after == "handler":
            bound = min(bound, act.held.guard.level)
        elif act.after == "way" and lowest >= act.level:
            # A way out that was left for one further above bars its handlers again.
            lowest = act.held.low
            bound = min(bound, lowest)
        elif act.kind == "handle" and act.level < bound and act.caught in line:
            return act
    return None


def signal_below(run, exception, bound):
    """An exception is signalled to the handlers below this place."""
    guard = handler_for(run, exception, bound)
    if guard is not None:
        parameters = guard.argument.data.body[0]
        act = run.work(guard.argument, (exception,) if parameters == 1 else (), "handler")
        act.held = Handling(exception, guard)
    elif exception.kind.is_kind_of("Error"):
        run.fail(exception)
    else:
        run.deliver(None)


def newest_handler(run, exception):
    """The activation of the newest Block that handles an exception, None if it is not being handled."""
    for act in reversed(run.acts):
        if act.after == "handler" and act.held.exception == exception:
            return act
    return None
