"""Plans of methods: their trees laid out as steps, with the places of variables, literals and blocks.

A plan has the form of a body (26). In one for the machine the steps are its codes (25). In one for the walk there
stand, in the place of jumps and tests, ("choose", wanted, steps, steps) and ("loop", steps, wanted, steps), which hold
the steps of the blocks that are done in place, and all steps stand the last one first, as the walk takes them.
"""

from imagetalk.inplace import CHOICES, LOOPS, in_place_form, marked

NIL = ("const", "nil")
POP = ("pop",)

# The names that mean the same everywhere.
FIXED_NAMES = {"self": ("self",), "nil": ("const", "nil"), "true": ("const", "true"), "false": ("const", "false")}


def planned(parsed, fields, is_main, in_place, flat):
    """The plan of the method of a class with these fields, flat for the machine, and the tuple of its literals."""
    planner, scope, steps = laid_out(parsed, fields, is_main, in_place, flat)
    return (planner.plan(scope, len(parsed.tree[2]), steps), tuple(planner.literals))


def variables_scope(parsed, fields, is_main, in_place):
    """The Scope that tells the names of the variables of a method, and within it those of its blocks."""
    _, scope, _ = laid_out(parsed, fields, is_main, in_place, True)
    return scope


def laid_out(parsed, fields, is_main, in_place, flat):
    """A method laid out as steps, with the Planner and the Scope that this took."""
    planner = Planner(fields, in_place and not parsed.keeps, flat)
    tree = marked(parsed.tree) if in_place and parsed.keeps else parsed.tree
    _, _, parameters, variables, statements = tree
    scope = Scope(None, (*parameters, *variables))
    steps = []
    put_statements(planner, statements, scope, steps)
    if not statements or statements[-1][0] != "return":
        if statements:
            steps.append(POP)
        steps.append(NIL if is_main else ("self",))
        steps.append(("answer",))
    return (planner, scope, steps)


class Scope:
    """An activation to be: its variables with their places, and its blocks.

    order has the names of the variables by their places, inner the scopes of the blocks.
    """

    def __init__(self, around, names):
        self.around = around
        self.places = {}
        self.order = []
        self.blocks = []
        self.inner = []
        for name in names:
            self.put_variable(name)

    def put_variable(self, name):
        """A variable begins."""
        self.places[name] = len(self.order)
        self.order.append(name)


class Planner:
    """What is counted through a whole method: its literals, like symbols once.

    judges tells whether each message is looked at for being done in place, where no variables can keep it from that,
    flat whether the steps are codes.
    """

    def __init__(self, fields, judges, flat):
        self.field_names = fields
        self.judges = judges
        self.flat = flat
        self.literals = []
        self.symbols = {}

    def plan(self, scope, parameters, steps):
        """The plan with these steps."""
        ordered = tuple(steps) if self.flat else backwards(steps)
        return (parameters, len(scope.order), ordered, tuple(scope.blocks))

    def literal(self, tree):
        """The number of a literal."""
        if tree[0] == "sym" and tree[1] in self.symbols:
            return self.symbols[tree[1]]
        number = len(self.literals)
        self.literals.append(tree)
        if tree[0] == "sym":
            self.symbols[tree[1]] = number
        return number

    def place_of(self, name, scope):
        """Where a variable or a field stands, as the end of its code, None for another name."""
        depth = 0
        while scope is not None:
            if name in scope.places:
                return ("temp", depth, scope.places[name])
            scope = scope.around
            depth += 1
        return ("field", self.field_names.index(name)) if name in self.field_names else None


def backwards(steps):
    """The steps, the last one first."""
    return tuple(reversed(steps))


def put_statements(planner, statements, scope, steps):
    """Puts the steps of statements behind these, of all but the last one with its value taken away."""
    for number, tree in enumerate(statements):
        if number > 0:
            steps.append(POP)
        put_steps(planner, tree, scope, steps)


def put_steps(planner, tree, scope, steps):
    """Puts the steps that leave the value of a tree behind these."""
    kind = tree[0]
    if kind == "var":
        steps.append(code_of_name(planner, tree[1], scope))
    elif kind == "int":
        steps.append(tree)
    elif kind == "send":
        selector = tree[2]
        form = in_place_form(tree) if planner.judges and (selector in CHOICES or selector in LOOPS) else None
        if form is None:
            put_steps(planner, tree[1], scope, steps)
            put_message(planner, "send", selector, tree[3], scope, steps)
        else:
            put_steps(planner, form, scope, steps)
    else:
        put = PUTS[kind]
        put(planner, tree, scope, steps)


def code_of_name(planner, name, scope):
    """The code that reads a name."""
    if name in scope.places:
        return ("temp", 0, scope.places[name])
    if name in FIXED_NAMES:
        return FIXED_NAMES[name]
    place = planner.place_of(name, scope)
    return ("class", name) if place is None else place


def put_message(planner, word, selector, arguments, scope, steps):
    """A message, behind what it is sent to."""
    for tree in arguments:
        put_steps(planner, tree, scope, steps)
    steps.append((word, selector, len(arguments)))


def put_literal(planner, tree, scope, steps):
    """A string, a symbol or an array."""
    steps.append(("lit", planner.literal(tree)))


def put_set(planner, tree, scope, steps):
    """A variable or a field is written."""
    put_steps(planner, tree[2], scope, steps)
    place = planner.place_of(tree[1], scope)
    steps.append(("set" + place[0], *place[1:]))


def put_super(planner, tree, scope, steps):
    """A message to super."""
    steps.append(("self",))
    put_message(planner, "super", tree[1], tree[2], scope, steps)


def put_cascade(planner, tree, scope, steps):
    """A cascade: its receiver is kept for each message but the last one."""
    put_steps(planner, tree[1], scope, steps)
    last = len(tree[2]) - 1
    for number, (selector, arguments) in enumerate(tree[2]):
        if number < last:
            steps.append(("dup",))
        put_message(planner, "send", selector, arguments, scope, steps)
        if number < last:
            steps.append(POP)


def put_block(planner, tree, scope, steps):
    """A block that lasts."""
    _, parameters, variables, statements = tree
    inner = Scope(scope, (*parameters, *variables))
    number = len(scope.blocks)
    steps.append(("block", number))
    scope.blocks.append(None)
    scope.inner.append(inner)
    inside = []
    put_statements(planner, statements, inner, inside)
    if not statements:
        inside.append(NIL)
    if not statements or statements[-1][0] != "return":
        inside.append(("answer",))
    scope.blocks[number] = planner.plan(inner, len(parameters), inside)


def put_return(planner, tree, scope, steps):
    """A return."""
    put_steps(planner, tree[1], scope, steps)
    steps.append(("answer",) if scope.around is None else ("return",))


def put_choice(planner, tree, scope, steps):
    """One of two blocks is gone through."""
    _, subject, wanted, block, other = tree
    put_steps(planner, subject, scope, steps)
    if not planner.flat:
        steps.append(("choose", wanted, part(planner, block, scope), part(planner, other, scope)))
        return
    test = held_place(steps)
    put_part(planner, block, scope, steps)
    jump = held_place(steps)
    below = len(steps)
    put_part(planner, other, scope, steps)
    steps[test] = ("test", wanted, below, len(steps))
    steps[jump] = ("jump", len(steps))


def put_loop(planner, tree, scope, steps):
    """Two blocks are gone through again and again."""
    _, subject, wanted, block = tree
    if not planner.flat:
        steps.append(("loop", part(planner, subject, scope), wanted, part(planner, block, scope)))
        return
    begin = len(steps)
    put_part(planner, subject, scope, steps)
    test = held_place(steps)
    put_part(planner, block, scope, steps)
    steps.append(POP)
    steps.append(("jump", begin))
    below = len(steps)
    steps.append(NIL)
    steps[test] = ("test", wanted, below, len(steps))


def held_place(codes):
    """The place of a code whose targets are not known yet."""
    codes.append(())
    return len(codes) - 1


def part(planner, tree, scope):
    """The steps of a block that is gone through in place, or of a name in the place of one, the last one first."""
    steps = []
    put_part(planner, tree, scope, steps)
    return backwards(steps)


def put_part(planner, tree, scope, steps):
    """Puts the steps of a block that is gone through in place, or of a name in the place of one, behind these."""
    if tree[0] == "var":
        steps.append(FIXED_NAMES[tree[1]])
        return
    _, _, variables, statements = tree
    for name in variables:
        scope.put_variable(name)
        steps.extend([NIL, ("settemp", 0, scope.places[name]), POP])
    put_statements(planner, statements, scope, steps)
    if not statements:
        steps.append(NIL)
    for name in variables:
        del scope.places[name]


PUTS = {"str": put_literal, "sym": put_literal, "arr": put_literal, "set": put_set, "super": put_super,
        "cascade": put_cascade, "block": put_block, "return": put_return, "choice": put_choice, "loop": put_loop}
