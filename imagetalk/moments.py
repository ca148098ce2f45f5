"""What is told of a run that stands somewhere."""

from imagetalk.telling import told

# The selectors of the activations without codes.
GUARDED = {"ensure": "ensure:", "curtail": "ifCurtailed:", "handle": "on:do:"}


def moment_of(run):
    """The activations of the process that goes on, from the first one up."""
    return tuple([activation_told(act) for act in run.acts])


def activation_told(act):
    """An activation as (kind, class, selector, place, values, variables)."""
    if act.kind in GUARDED:
        return (act.kind, "Block", GUARDED[act.kind], -1, (), ())
    method = act.method
    return (act.kind, method.kind.name, method.selector, act.place, all_told(act.pile), all_told(act.cells))


def all_told(values):
    """What is told of several values."""
    return tuple([told(value) for value in values])
