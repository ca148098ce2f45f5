"""What codes do in both ways of working: each deed takes the run, its topmost activation and the code."""

from imagetalk.things import Thing


def push_self(run, act, code):
    """The receiver."""
    act.pile.append(act.receiver)


def push_const(run, act, code):
    """nil, true or false."""
    act.pile.append(None if code[1] == "nil" else code[1] == "true")


def push_integer(run, act, code):
    """An integer."""
    act.pile.append(code[1])


def push_literal(run, act, code):
    """A literal of the method."""
    act.pile.append(run.literals[act.method][code[1]])


def push_class(run, act, code):
    """A class."""
    act.pile.append(run.class_named(code[1]))


def owner_of(act, depth):
    """The activation that has the variables at a depth."""
    for _ in range(depth):
        act = act.around
    return act


def push_variable(run, act, code):
    """A variable."""
    owner = act if code[1] == 0 else owner_of(act, code[1])
    act.pile.append(owner.cells[code[2]])


def push_field(run, act, code):
    """A field of the receiver."""
    act.pile.append(act.receiver.parts[code[1]])


def push_block(run, act, code):
    """A new Block."""
    act.pile.append(run.make_block(act, code[1]))


def set_variable(run, act, code):
    """Writes a variable."""
    owner = act if code[1] == 0 else owner_of(act, code[1])
    owner.cells[code[2]] = act.pile[-1]


def set_field(run, act, code):
    """Writes a field of the receiver."""
    act.receiver.parts[code[1]] = act.pile[-1]


def drop(run, act, code):
    """Takes one value away."""
    act.pile.pop()


def double(run, act, code):
    """Leaves a value twice."""
    act.pile.append(act.pile[-1])


def taken(stack, many):
    """The last values of a stack, which are taken away."""
    if many == 0:
        return ()
    values = stack[-many:]
    del stack[-many:]
    return values


def send(run, act, code):
    """Sends a message."""
    _, selector, many = code
    pile = act.pile
    arguments = taken(pile, many) if many else ()
    receiver = pile.pop()
    kind = receiver.kind if isinstance(receiver, Thing) else run.kind_of(receiver)
    run.send_from(kind, receiver, kind, selector, arguments)


def send_super(run, act, code):
    """Sends a message to super."""
    arguments = taken(act.pile, code[2])
    receiver = act.pile.pop()
    run.send_from(act.method.kind.parent, receiver, run.kind_of(receiver), code[1], arguments)


def answer(run, act, code):
    """The activation ends with a value."""
    run.answer(act.pile.pop())


def return_home(run, act, code):
    """The return of a Block."""
    run.return_home(act, act.pile.pop())


DEEDS = {
    "self": push_self,
    "const": push_const,
    "int": push_integer,
    "lit": push_literal,
    "class": push_class,
    "temp": push_variable,
    "field": push_field,
    "block": push_block,
    "settemp": set_variable,
    "setfield": set_field,
    "pop": drop,
    "dup": double,
    "send": send,
    "super": send_super,
    "answer": answer,
    "return": return_home,
}
