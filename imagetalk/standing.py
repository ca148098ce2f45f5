"""Where a run stands, told in rows that do not hang on the numbers of objects and activations.

Nothing here changes anything, as worlds are compared by it.
"""

from imagetalk.codes import all_bodies
from imagetalk.holding import literals_of, names_of, program_methods, reached_nodes
from imagetalk.programs import where_unlike
from imagetalk.things import Activation, Closure, Guard, Handling, Remains, Signals, Strand, Way

# What stands between the parts of a row.
PART = " |"


def made_row(method):
    """What two methods have in common that do the same in the same class."""
    return (method.kind.name, method.selector, method.trees, method.body)


def methods_at_work(run, nodes):
    """The methods of activations: of those that have not ended, then of those among the nodes."""
    acts = [act for strand in run.strands for act in strand.acts if isinstance(act, Activation)]
    found = {act.method: True for act in acts}
    for node in nodes:
        if isinstance(node, Activation):
            found[node.method] = True
    return list(found)


def made_rows(methods):
    """What the methods do, like ones once."""
    rows = []
    for method in methods:
        row = made_row(method)
        if row not in rows:
            rows.append(row)
    return rows


def waiting_rows(run):
    """How many Semaphores are waited at, and for each one the processes that wait, in their order."""
    groups = []
    for strand in run.strands:
        if strand.waits_at is not None:
            row = " ".join([str(other.number) for other in strand.waits_at.data.waiting])
            if row not in groups:
                groups.append(row)
    return [str(len(groups)), *groups]


def bond_words(held):
    """The words for how an activation belongs to a way out, a handling or arguments."""
    if isinstance(held, Way):
        return f" {held.low} {held.arrival}"
    if isinstance(held, Handling):
        return f" {held.guard.level}"
    if isinstance(held, Remains):
        return f" {held.strand.number}"
    return ""


def guard_word(guard):
    """What an activation of on:do: catches, of the others whether the argument has begun."""
    if guard.kind == "handle":
        return guard.caught
    return "1" if guard.begun else "0"


class Standing:
    """A run that is looked at: the nodes that are reached, and the numbers by which rows tell of them."""

    def __init__(self, run):
        names = names_of(run)
        nodes = reached_nodes(run, names)
        methods = methods_at_work(run, nodes)
        rows = made_rows(methods)
        self.run = run
        self.nodes = nodes
        self.made = rows
        self.live = made_rows(methods_at_work(run, []))
        self.names = {**names, **{node: f"o{number}" for number, node in enumerate(nodes)}}
        self.numbers = {method: rows.index(made_row(method)) for method in methods}
        self.bodies = [all_bodies(row[3]) for row in rows]

    def ref(self, value):
        """The word for a value."""
        if value is None:
            return "n"
        if isinstance(value, bool):
            return "t" if value else "f"
        return f"i{value}" if isinstance(value, int) else self.names[value]

    def refs(self, values):
        """The words for several values, each with a blank ahead."""
        return "".join([" " + self.ref(value) for value in values])

    def method_words(self, act):
        """The words for the method and the body that an activation works."""
        number = self.numbers[act.method]
        return f"{number} {self.bodies[number].index(act.body)}"

    def process_rows(self):
        """The processes: how the run has ended, which ones there are, and where their activations stand."""
        run = self.run
        ending = ["on"] if run.ending is None else ["end", *run.ending]
        going = "-" if run.going is None or run.ending is not None else str(run.going.number)
        ready = "".join([f" {strand.number}" for strand in run.ready])
        rows = [*ending, f"{len(run.strands)} {going}{PART}{ready}", *waiting_rows(run)]
        for strand in run.strands:
            rows.append(f"{1 if strand.gone else 0} {len(strand.acts)}")
            rows.extend([self.act_row(act) for act in strand.acts])
        return rows

    def act_row(self, act):
        """Where an activation stands that has not ended."""
        if isinstance(act, Guard):
            return f"{act.kind} {guard_word(act)}"
        after = act.after if act.after is not None else "-"
        return f"{act.kind} {self.method_words(act)} {act.place} {1 if act.waits else 0} {after}{bond_words(act.held)}"

    def object_rows(self):
        """The objects that are reached, and what holds them."""
        run = self.run
        rows = [f"{len(run.symbols)} {len(self.nodes)}", *sorted(run.symbols)]
        rows.extend([self.refs(run.classes[name].parts) for name in run.stock.book.own_names])
        rows.extend([self.refs(literals_of(run, method)) for method in program_methods(run) if method.trees])
        for strand in run.strands:
            rows.append(self.strand_row(strand))
            rows.extend([self.values_row(act) for act in strand.acts])
        rows.append(self.ref(run.final))
        rows.extend([self.node_row(node) for node in self.nodes])
        return rows

    def strand_row(self, strand):
        """What a process holds beside its activations."""
        if strand.gone:
            return "gone"
        return self.refs([strand.thing, strand.block, strand.comes])

    def values_row(self, act):
        """What an activation holds that has not ended."""
        if isinstance(act, Guard):
            return self.refs([act.block, act.argument, act.kept])
        return f"{self.kept_words(act)}{PART}{self.refs(act.pile)}{PART}{self.held_refs(act.held)}"

    def kept_words(self, act):
        """What an activation of a method or a Block holds for good."""
        literals = self.refs(literals_of(self.run, act.method))
        return f"{self.refs([act.receiver, act.block, act.around])}{PART}{self.refs(act.cells)}{PART}{literals}"

    def held_refs(self, held):
        """The words for what the way out, the handling or the arguments hold to which an activation belongs."""
        if isinstance(held, Way):
            return self.refs([held.carried])
        if isinstance(held, Handling):
            return self.refs([held.exception])
        if isinstance(held, Remains):
            return self.refs([held.strand.thing, *held.blocks])
        return ""

    def node_row(self, node):
        """An object or an activation that has ended."""
        if isinstance(node, Activation):
            return f"act {node.kind} {self.method_words(node)}{PART}{self.kept_words(node)}"
        name = node.kind.name
        data = node.data
        if isinstance(data, str):
            return f"{name} {data}"
        if isinstance(data, list):
            return name + self.refs(data)
        if isinstance(data, Closure):
            number = self.numbers[data.around.method]
            return f"{name} {self.bodies[number].index(data.body)} {self.ref(data.around)}"
        if isinstance(data, Strand):
            return f"{name} {data.number}"
        if isinstance(data, Signals):
            return f"{name} {data.count}"
        return name + self.refs(node.parts)


def plain_parts(run):
    """What can be told of a run without a look at its processes and objects, by its words."""
    return [("shown", run.output), ("sends", run.sent), ("trace", run.messages), ("made", run.made),
            ("rounds", run.rounds)]


def unlike_word(run, other):
    """The first word that tells where two runs do not stand alike, None if they do."""
    stock, against = run.stock, other.stock
    if where_unlike(stock.source_program, stock.book, against.source_program, against.book) is not None:
        return "program"
    for (word, one), (_, two) in zip(plain_parts(run), plain_parts(other)):
        if one != two:
            return word
    standing = Standing(run)
    counterpart = Standing(other)
    if standing.process_rows() != counterpart.process_rows() or standing.live != counterpart.live:
        return "processes"
    if standing.object_rows() != counterpart.object_rows() or standing.made != counterpart.made:
        return "objects"
    return None
