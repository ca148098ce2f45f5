"""What of a run holds what: all that is reached, in an order that does not hang on numbers.

Nothing here changes anything, as worlds are compared by it.
"""

from imagetalk.book import CLASS_WORD
from imagetalk.things import Activation, Closure, Guard, Handling, Remains, Thing, Way


def made_row(method):
    """What two methods have in common that do the same in the same class."""
    return (method.kind.name, method.selector, method.trees, method.body)


def waiting_rows(run):
    """For each Semaphore that is waited at the numbers of the processes that wait, in their order."""
    rows = []
    for strand in run.strands:
        if strand.waits_at is not None:
            row = [other.number for other in strand.waits_at.data.waiting]
            if row not in rows:
                rows.append(row)
    return rows


def bond_parts(held):
    """How an activation belongs to a way out, a handling or arguments."""
    if isinstance(held, Way):
        return (held.low, held.arrival)
    if isinstance(held, Handling):
        return (held.guard.level,)
    return (held.strand.number,) if isinstance(held, Remains) else ()


def class_word(name):
    """A word for a class, without a blank."""
    return "m" + name.removesuffix(CLASS_WORD) if name.endswith(CLASS_WORD) else "c" + name


def names_of(run):
    """What has a name of its own: classes, Symbols, and the activations that have not ended."""
    names = {thing: class_word(name) for name, thing in run.classes.items()}
    texts = sorted(run.symbols)
    for number in range(len(texts)):
        names[run.symbols[texts[number]]] = f"s{number}"
    for strand in run.strands:
        for act in strand.acts:
            names[act] = f"a{strand.number}.{act.level}"
    return names


def program_methods(run):
    """The methods of the program as it is that have literals as objects, main at the end."""
    stock = run.stock
    return [*[stock.own[key] for key in stock.literal_keys if key in stock.own], stock.main]


def literals_of(run, method):
    """The literals of a method, as objects."""
    return run.literals.get(method, [])


def class_parts(run, name):
    """What the fields of one of the program's classes hold, nothing if that is nil throughout."""
    parts = run.classes[name].parts if name in run.classes else []
    return parts if any([value is not None for value in parts]) else []


def strand_values(strand):
    """What a process that has not ended holds beside its activations."""
    return [] if strand.gone else [strand.thing, strand.block, strand.comes]


def held_values(held):
    """What the way out, the handling or the arguments hold to which an activation belongs."""
    if isinstance(held, Way):
        return [held.carried]
    if isinstance(held, Handling):
        return [held.exception]
    if isinstance(held, Remains):
        return [held.strand.thing, *held.blocks]
    return []


def act_rows(run, act):
    """What an activation holds that has not ended, in rows."""
    if isinstance(act, Guard):
        return [[act.block, act.argument, act.kept]]
    return [kept_values(run, act), act.pile, held_values(act.held)]


def kept_values(run, act):
    """What an activation of a method or a Block holds for good."""
    return [act.receiver, act.block, act.around, *act.cells, *literals_of(run, act.method)]


def root_rows(run):
    """All that is held by the run itself and by what has not ended, in order, in rows."""
    rows = [class_parts(run, name) for name in run.stock.book.own_names]
    rows.extend([literals_of(run, method) for method in program_methods(run)])
    rows.extend([strand_values(strand) for strand in run.strands])
    rows.extend([row for strand in run.strands for act in strand.acts for row in act_rows(run, act)])
    return [*rows, [run.final]]


def node_values(run, node):
    """What an object, or an activation that has ended, holds."""
    if isinstance(node, Activation):
        return kept_values(run, node)
    if isinstance(node.data, Closure):
        return [node.data.around]
    return node.data if isinstance(node.data, list) else node.parts


def reached_nodes(run, names):
    """The objects and ended activations that are reached, but for those with names of their own."""
    waiting = [value for row in root_rows(run) for value in row]
    found = {}
    at = 0
    while at < len(waiting):
        value = waiting[at]
        at += 1
        if isinstance(value, (Thing, Activation)) and value not in found and value not in names:
            found[value] = True
            waiting.extend(node_values(run, value))
    return list(found)
