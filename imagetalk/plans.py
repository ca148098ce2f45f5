"""Plans of methods: their trees laid out as steps, with the places of variables, literals and blocks.

A step is a code (25), but for jumps and tests. In their place stand ("choose", wanted, steps, steps) and
("loop", steps, wanted, steps), which hold the steps of the blocks that are done in place. A plan has the form of a
body (26), with steps in the place of codes. All steps stand the last one first, as the walk takes them.
"""

from imagetalk.inplace import in_place_form, marked
from imagetalk.names import SPOKEN_WORDS

NIL = ("const", "nil")
POP = ("pop",)


def planned(parsed, fields, is_main, in_place):
    """The plan of the method of a class with these fields, and the tuple of its literals."""
    planner, scope, steps = laid_out(parsed, fields, is_main, in_place)
    return (scope.plan(len(parsed.tree[2]), steps), tuple(planner.literals))


def variables_scope(parsed, fields, is_main, in_place):
    """The Scope that tells the names of the variables of a method, and within it those of its blocks."""
    _, scope, _ = laid_out(parsed, fields, is_main, in_place)
    return scope


def laid_out(parsed, fields, is_main, in_place):
    """A method laid out as steps, with the Planner and the Scope that this took."""
    planner = Planner(fields, in_place and not parsed.keeps)
    tree = marked(parsed.tree) if in_place and parsed.keeps else parsed.tree
    _, _, parameters, variables, statements = tree
    scope = Scope(None, (*parameters, *variables))
    steps = scope_steps(planner, statements, scope)
    if not statements or statements[-1][0] != "return":
        if statements:
            steps.append(POP)
        steps.append(NIL if is_main else ("self",))
        steps.append(("answer",))
    return (planner, scope, steps)


class Scope:
    """An activation to be: its variables with their places, and its blocks.

    order has the names of the variables by their places, inner the scopes of the blocks.
    """

    def __init__(self, around, names):
        self.around = around
        self.places = {name: place for place, name in enumerate(names)}
        self.order = list(names)
        self.blocks = []
        self.inner = []

    def plan(self, parameters, steps):
        """The plan with these steps."""
        return (parameters, len(self.order), backwards(steps), tuple(self.blocks))

    def put_variable(self, name):
        """A variable of a block that is done in place begins."""
        self.places[name] = len(self.order)
        self.order.append(name)


class Planner:
    """What is counted through a whole method: its literals, like symbols once.

    judges tells whether each message is looked at for being done in place, where no variables can keep it from that.
    """

    def __init__(self, fields, judges):
        self.field_names = fields
        self.judges = judges
        self.literals = []
        self.symbols = {}

    def literal(self, tree):
        """The number of a literal."""
        if tree[0] == "sym" and tree[1] in self.symbols:
            return self.symbols[tree[1]]
        number = len(self.literals)
        self.literals.append(tree)
        if tree[0] == "sym":
            self.symbols[tree[1]] = number
        return number

    def place_of(self, name, scope):
        """Where a variable or a field stands, as the end of its code, None for another name."""
        depth = 0
        while scope is not None:
            if name in scope.places:
                return ("temp", depth, scope.places[name])
            scope = scope.around
            depth += 1
        return ("field", self.field_names.index(name)) if name in self.field_names else None


def backwards(steps):
    """The steps, the last one first."""
    return tuple(reversed(steps))


def scope_steps(planner, statements, scope):
    """The steps of statements, of all but the last one with its value taken away."""
    steps = []
    for number, tree in enumerate(statements):
        if number > 0:
            steps.append(POP)
        put_steps(planner, tree, scope, steps)
    return steps


def put_steps(planner, tree, scope, steps):
    """Puts the steps that leave the value of a tree behind these."""
    put = PUTS[tree[0]]
    put(planner, tree, scope, steps)


def put_name(planner, tree, scope, steps):
    """Reads a name."""
    name = tree[1]
    if name == "self":
        steps.append(("self",))
    elif name in SPOKEN_WORDS:
        steps.append(("const", name))
    else:
        place = planner.place_of(name, scope)
        steps.append(("class", name) if place is None else place)


def put_integer(planner, tree, scope, steps):
    """An integer."""
    steps.append(tree)


def put_literal(planner, tree, scope, steps):
    """A string, a symbol or an array."""
    steps.append(("lit", planner.literal(tree)))


def put_set(planner, tree, scope, steps):
    """A variable or a field is written."""
    put_steps(planner, tree[2], scope, steps)
    place = planner.place_of(tree[1], scope)
    steps.append(("set" + place[0], *place[1:]))


def put_all(planner, trees, scope, steps):
    """The steps of several trees, in order."""
    for tree in trees:
        put_steps(planner, tree, scope, steps)


def put_send(planner, tree, scope, steps):
    """A message."""
    form = in_place_form(tree) if planner.judges else None
    if form is not None:
        put_steps(planner, form, scope, steps)
        return
    _, subject, selector, arguments = tree
    put_steps(planner, subject, scope, steps)
    put_all(planner, arguments, scope, steps)
    steps.append(("send", selector, len(arguments)))


def put_super(planner, tree, scope, steps):
    """A message to super."""
    steps.append(("self",))
    put_all(planner, tree[2], scope, steps)
    steps.append(("super", tree[1], len(tree[2])))


def put_cascade(planner, tree, scope, steps):
    """A cascade: its receiver is kept for each message but the last one."""
    put_steps(planner, tree[1], scope, steps)
    last = len(tree[2]) - 1
    for number, (selector, arguments) in enumerate(tree[2]):
        if number < last:
            steps.append(("dup",))
        put_all(planner, arguments, scope, steps)
        steps.append(("send", selector, len(arguments)))
        if number < last:
            steps.append(POP)


def put_block(planner, tree, scope, steps):
    """A block that lasts."""
    _, parameters, variables, statements = tree
    inner = Scope(scope, (*parameters, *variables))
    number = len(scope.blocks)
    steps.append(("block", number))
    scope.blocks.append(None)
    scope.inner.append(inner)
    inside = scope_steps(planner, statements, inner) if statements else [NIL]
    if not statements or statements[-1][0] != "return":
        inside.append(("answer",))
    scope.blocks[number] = inner.plan(len(parameters), inside)


def put_return(planner, tree, scope, steps):
    """A return."""
    put_steps(planner, tree[1], scope, steps)
    steps.append(("answer",) if scope.around is None else ("return",))


def put_choice(planner, tree, scope, steps):
    """One of two blocks is gone through."""
    _, subject, wanted, block, other = tree
    put_steps(planner, subject, scope, steps)
    steps.append(("choose", wanted, gone_through(planner, block, scope), gone_through(planner, other, scope)))


def put_loop(planner, tree, scope, steps):
    """Two blocks are gone through again and again."""
    _, subject, wanted, block = tree
    steps.append(("loop", gone_through(planner, subject, scope), wanted, gone_through(planner, block, scope)))


def gone_through(planner, tree, scope):
    """The steps of a block that is gone through in place, or of a name in the place of one."""
    steps = []
    if tree[0] == "var":
        put_name(planner, tree, scope, steps)
        return backwards(steps)
    _, _, variables, statements = tree
    for name in variables:
        scope.put_variable(name)
        steps.extend([NIL, ("settemp", 0, scope.places[name]), POP])
    steps.extend(scope_steps(planner, statements, scope) if statements else [NIL])
    for name in variables:
        del scope.places[name]
    return backwards(steps)


PUTS = {"var": put_name, "int": put_integer, "str": put_literal, "sym": put_literal, "arr": put_literal, "set": put_set,
        "send": put_send, "super": put_super, "cascade": put_cascade, "block": put_block, "return": put_return,
        "choice": put_choice, "loop": put_loop}
