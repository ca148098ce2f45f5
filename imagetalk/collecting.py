"""What of the objects of a run is garbage, and how it is left out."""

from imagetalk.holding import names_of, program_methods, reached_nodes
from imagetalk.standing import methods_at_work


def kept_things(run, names, nodes):
    """The objects of the image, behind the first ones, that stay, in their order."""
    found = {node: True for node in nodes}
    return [thing for thing in run.things if thing in found or thing in names]


def garbage_many(run):
    """How many objects would be left out."""
    names = names_of(run)
    return len(run.things) - len(kept_things(run, names, reached_nodes(run, names)))


def collect_garbage(run):
    """Leaves out what is not reached; tells how many objects that were."""
    names = names_of(run)
    nodes = reached_nodes(run, names)
    things = kept_things(run, names, nodes)
    many = len(run.things) - len(things)
    run.things = things
    for strand in run.strands:
        if strand.thing not in things:
            strand.thing = None
    methods = {method: True for method in [*program_methods(run), *methods_at_work(run, nodes)]}
    run.literals = {method: values for method, values in run.literals.items() if method in methods}
    return many
