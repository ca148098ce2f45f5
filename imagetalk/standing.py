"""Where a run stands, told in rows that do not hang on the numbers of objects and activations."""

from imagetalk.codes import all_bodies
from imagetalk.holding import bond_parts, class_parts, held_values, literals_of, made_row, names_of, program_methods
from imagetalk.holding import reached_nodes, waiting_rows
from imagetalk.things import Activation, Closure, Guard, Signals, Strand, Thing

# What stands between the parts of a row.
PART = " |"


def methods_at_work(run, nodes):
    """The methods of activations: of those that have not ended, then of those among the nodes."""
    acts = [act for strand in run.strands for act in strand.acts if isinstance(act, Activation)]
    found = {act.method: True for act in acts}
    for node in nodes:
        if isinstance(node, Activation):
            found[node.method] = True
    return list(found)


def made_rows(methods):
    """What the methods do, like ones once."""
    rows = []
    for method in methods:
        row = made_row(method)
        if row not in rows:
            rows.append(row)
    return rows


def guard_word(guard):
    """What an activation of on:do: catches, of the others whether the argument has begun."""
    if guard.kind == "handle":
        return guard.caught
    return "1" if guard.begun else "0"


def plain_word(value):
    """The word for nil, a truth or an integer."""
    if value is None:
        return "n"
    if isinstance(value, bool):
        return "t" if value else "f"
    return f"i{value}"


class Standing:
    """A run that is looked at: the nodes that are reached, and the numbers by which rows tell of them."""

    def __init__(self, run):
        names = names_of(run)
        nodes = reached_nodes(run, names)
        methods = methods_at_work(run, nodes)
        rows = made_rows(methods)
        self.run = run
        self.nodes = nodes
        self.made = rows
        self.names = {**names, **{node: f"o{number}" for number, node in enumerate(nodes)}}
        self.numbers = {method: rows.index(made_row(method)) for method in methods}
        self.bodies = [all_bodies(row[3]) for row in rows]

    def ref(self, value):
        """The word for a value."""
        return self.names[value] if isinstance(value, (Thing, Activation)) else plain_word(value)

    def refs(self, values):
        """The words for several values, each with a blank ahead."""
        names = self.names
        words = [names[value] if isinstance(value, (Thing, Activation)) else plain_word(value) for value in values]
        return " " + " ".join(words) if words else ""

    def method_words(self, act):
        """The words for the method and the body that an activation works."""
        number = self.numbers[act.method]
        return f"{number} {self.bodies[number].index(act.body)}"

    def process_rows(self):
        """The processes: how the run has ended, which ones there are, and where their activations stand."""
        run = self.run
        ending = ["on"] if run.ending is None else ["end", *run.ending]
        going = "-" if run.going is None or run.ending is not None else str(run.going.number)
        ready = "".join([f" {strand.number}" for strand in run.ready])
        waiting = waiting_rows(run)
        rows = [*ending, f"{len(run.strands)} {going}{PART}{ready}", str(len(waiting))]
        rows.extend([" ".join([str(number) for number in row]) for row in waiting])
        for strand in run.strands:
            rows.append(f"{1 if strand.gone else 0} {len(strand.acts)}")
            rows.extend([self.act_row(act) for act in strand.acts])
        return rows

    def act_row(self, act):
        """Where an activation stands that has not ended."""
        if isinstance(act, Guard):
            return f"{act.kind} {guard_word(act)}"
        after = act.after if act.after is not None else "-"
        bond = "".join([f" {part}" for part in bond_parts(act.held)])
        return f"{act.kind} {self.method_words(act)} {act.place} {1 if act.waits else 0} {after}{bond}"

    def object_rows(self):
        """The objects that are reached, and what holds them."""
        run = self.run
        rows = [f"{len(run.symbols)} {len(self.nodes)}", *sorted(run.symbols)]
        rows.extend([self.refs(class_parts(run, name)) for name in run.stock.book.own_names])
        rows.extend([self.refs(literals_of(run, method)) for method in program_methods(run) if method.trees])
        for strand in run.strands:
            rows.append(self.strand_row(strand))
            rows.extend([self.values_row(act) for act in strand.acts])
        rows.append(self.ref(run.final))
        rows.extend([self.node_row(node) for node in self.nodes])
        return rows

    def strand_row(self, strand):
        """What a process holds beside its activations."""
        if strand.gone:
            return "gone"
        return self.refs([strand.thing, strand.block, strand.comes])

    def values_row(self, act):
        """What an activation holds that has not ended."""
        if isinstance(act, Guard):
            return self.refs([act.block, act.argument, act.kept])
        return f"{self.kept_words(act)}{PART}{self.refs(act.pile)}{PART}{self.refs(held_values(act.held))}"

    def kept_words(self, act):
        """What an activation of a method or a Block holds for good."""
        literals = self.refs(literals_of(self.run, act.method))
        return f"{self.refs([act.receiver, act.block, act.around])}{PART}{self.refs(act.cells)}{PART}{literals}"

    def node_row(self, node):
        """An object or an activation that has ended."""
        if isinstance(node, Activation):
            return f"act {node.kind} {self.method_words(node)}{PART}{self.kept_words(node)}"
        name = node.kind.name
        data = node.data
        if isinstance(data, str):
            return f"{name} {data}"
        if isinstance(data, list):
            return name + self.refs(data)
        if isinstance(data, Closure):
            number = self.numbers[data.around.method]
            return f"{name} {self.bodies[number].index(data.body)} {self.ref(data.around)}"
        if isinstance(data, Strand):
            return f"{name} {data.number}"
        if isinstance(data, Signals):
            return f"{name} {data.count}"
        return name + self.refs(node.parts)
