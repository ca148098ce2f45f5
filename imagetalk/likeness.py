"""Whether two runs stand alike: they are gone through together, from what each holds to what that holds.

Nothing here changes anything, as worlds are compared by it.
"""

from imagetalk.holding import bond_parts, made_row, node_values, root_rows, waiting_rows
from imagetalk.programs import where_unlike
from imagetalk.things import Activation, Closure, Guard, Kind, Signals, Strand, Thing


def unlike_word(run, other):
    """The first word that tells where two runs do not stand alike, None if they do."""
    if not have_same_program(run.stock, other.stock):
        return "program"
    for (word, one), (_, two) in zip(plain_parts(run), plain_parts(other)):
        if one != two:
            return word
    return None if have_same_objects(run, other) else "objects"


def have_same_program(stock, other):
    """Whether two stocks have the same program, but for the words of its sources."""
    if stock.source_program == other.source_program:
        return True
    return where_unlike(stock.source_program, stock.book, other.source_program, other.book) is None


def plain_parts(run):
    """What can be told of a run without a look at its objects, by its words."""
    return [("shown", run.output), ("sends", run.sent), ("trace", run.messages), ("made", run.made),
            ("rounds", run.rounds), ("processes", processes_told(run))]


def processes_told(run):
    """How the run has ended, which processes there are, and where their activations stand."""
    going = None if run.going is None or run.ending is not None else run.going.number
    ready = [strand.number for strand in run.ready]
    strands = [[strand.gone, *[act_told(act) for act in strand.acts]] for strand in run.strands]
    return [run.ending, going, ready, waiting_rows(run), strands]


def act_told(act):
    """Where an activation stands that has not ended."""
    if isinstance(act, Guard):
        return (act.kind, act.caught, act.begun)
    return (act.kind, made_row(act.method), act.body, act.place, act.waits, act.after, bond_parts(act.held))


def node_told(node):
    """What there is of an object, or of an activation that has ended, beside what it holds."""
    if isinstance(node, Activation):
        return (node.kind, made_row(node.method), node.body)
    name = node.kind.name
    data = node.data
    if isinstance(data, str):
        return (name, data)
    if isinstance(data, Closure):
        return (name, data.body)
    if isinstance(data, Strand):
        return (name, data.number)
    if isinstance(data, Signals):
        return (name, data.count)
    return (name, data.name) if isinstance(data, Kind) else (name,)


def have_same_objects(run, other):
    """Whether all that two runs hold, whose processes are alike, is the same but for its numbers."""
    rows = root_rows(run)
    counterparts = root_rows(other)
    if [len(row) for row in rows] != [len(row) for row in counterparts] or sorted(run.symbols) != sorted(other.symbols):
        return False
    ones = [value for row in rows for value in row]
    twos = [value for row in counterparts for value in row]
    stand = [act for strand in run.strands for act in strand.acts]
    against = [act for strand in other.strands for act in strand.acts]
    pairs = {act: there for act, there in zip(stand, against)}
    found = {there: True for there in against}
    at = 0
    while at < len(ones):
        one = ones[at]
        two = twos[at]
        at += 1
        if not isinstance(one, (Thing, Activation)):
            if one != two or isinstance(one, bool) != isinstance(two, bool):
                return False
        elif one not in pairs:
            values = node_values(run, one)
            if two in found or not isinstance(two, (Thing, Activation)) or node_told(one) != node_told(two):
                return False
            against_values = node_values(other, two)
            if len(values) != len(against_values):
                return False
            pairs[one] = two
            found[two] = True
            ones.extend(values)
            twos.extend(against_values)
        elif pairs[one] != two:
            return False
    return True
