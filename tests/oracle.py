"""Points 17 to 22 and 53 to 55 once more, worked otherwise: by Python's own recursion and its own errors as ways out.

Each process is a generator that yields where a turn comes. Objects and what is done by rule at once are the package's.
"""

from imagetalk.image import Image
from imagetalk.programread import read_program
from imagetalk.telling import told
from imagetalk.stock import Stock
from imagetalk.things import Kind, Refused, Rule, Stopped, Thing

CHOICES = {"ifTrue:": (True, None), "ifFalse:": (False, None), "and:": (True, False), "or:": (False, True), "ifTrue:ifFalse:": (True, 1),
           "ifFalse:ifTrue:": (False, 1)}
LOOPS = {"whileTrue:": True, "whileFalse:": False}


class Leave(Exception):
    """A way out to a frame, a signal or a whole process; low is the place of the frame at which it ends."""

    def __init__(self, goal, low, word, value):
        super().__init__()
        self.goal, self.low, self.word, self.value, self.guard, self.barred = goal, low, word, value, None, []


class Dies(Exception):
    """A process ends by an Error."""


class Ends(Exception):
    """The run ends with a value."""


class Frame:
    def __init__(self, kind, **more):
        self.kind, self.begun, self.names, self.around, self.home, self.method = kind, False, {}, None, None, None
        self.receiver = self.block = self.argument = self.caught = self.handled = self.guard = self.works_main = None
        self.__dict__.update(more)


class Closure:
    def __init__(self, tree, frame):
        self.tree, self.frame, self.body = tree, frame, (len(tree[1]),)


class Task:
    def __init__(self, number):
        self.number, self.stack, self.ways, self.steps, self.thing = number, [], [], None, None
        self.gone, self.waits_at = False, None


def names_in(tree):
    """All names that are read or set in a tree."""
    found = {tree[1]} if tree[0] in ("var", "set") else set()
    for part in parts(tree):
        found |= names_in(part)
    return found


def parts(tree):
    kind = tree[0]
    if kind in ("return", "set"):
        return [tree[-1]]
    if kind == "block" or kind == "super":
        return list(tree[-1])
    if kind == "send":
        return [tree[1], *tree[3]]
    if kind == "cascade":
        return [tree[1]] + [part for _, trees in tree[2] for part in trees]
    return []


def kept_names(tree):
    """The names that blocks that last name in a tree."""
    if tree[0] == "block":
        return names_in(tree)
    found = set()
    blocks = written_blocks(tree) if tree[0] == "send" and is_in_place(tree) else []
    for part in parts(tree):
        for inner in part[3] if part in blocks else [part]:
            found |= kept_names(inner)
    return found


def written_blocks(tree):
    return list(tree[3]) + ([tree[1]] if tree[2] in LOOPS else [])


def is_in_place(tree):
    if tree[2] not in CHOICES and tree[2] not in LOOPS:
        return False
    for block in written_blocks(tree):
        if block[0] != "block" or block[1]:
            return False
        for statement in block[3]:
            if kept_names(statement) & set(block[2]):
                return False
    return True


class Oracle(Image):
    def __init__(self, program, most_sends, in_place):
        super().__init__(Stock(program, read_program(program), {}))
        self.most_sends, self.in_place = most_sends, in_place
        self.sends, self.trace, self.output, self.rounds = 0, [], "", 0
        self.places = {}
        main = Task(0)
        self.tasks, self.ready, self.task = [main], [], main
        self.put_all_literals()
        main.steps = self.main_steps(self.stock.main)

    def run(self):
        """The outcome."""
        while True:
            task = self.task
            try:
                next(task.steps)
            except StopIteration:
                if task.number == 0:
                    return self.outcome("value", "nil")
                self.end_task(task)
            except Ends as end:
                return self.outcome("value", told(end.args[0]))
            except Stopped as stop:
                return self.outcome("stopped", stop.word)
            except Dies as death:
                if task.number == 0:
                    return self.outcome("error", death.args[0])
                if any(frame.works_main for frame in task.stack):
                    return self.outcome("value", "nil")
                self.end_task(task)
            if not self.ready:
                return self.outcome("stuck", "")
            self.task = self.ready.pop(0)

    def outcome(self, kind, word):
        return (kind, word, self.output, self.sends)

    def end_task(self, task):
        task.gone, task.stack = True, []

    def main_steps(self, method):
        try:
            value = yield from self.method(method, None, (), True)
        except Leave:
            value = None
        raise Ends(value)

    def task_steps(self, block):
        try:
            yield from self.block_work(block, ())
        except Leave:
            pass

    def push(self, frame):
        frame.index = len(self.task.stack)
        if frame.index >= 100:
            raise Stopped("depth")
        self.task.stack.append(frame)
        return frame

    def pop(self, frame):
        assert self.task.stack.pop() is frame

    def method(self, method, receiver, arguments, is_main=False):
        _, _, parameters, variables, statements = method.parsed.tree
        frame = self.push(Frame("method", method=method, receiver=receiver))
        frame.names = dict(zip(parameters, arguments), **{name: None for name in variables})
        frame.home, frame.plain = frame, not self.in_place and (is_main or method.kind.name in self.stock.book.methods)
        try:
            value = yield from self.statements(statements, frame)
            if not statements or statements[-1][0] != "return":
                value = None if is_main else receiver
        except Leave as leave:
            self.pop(frame)
            if leave.goal is not frame:
                raise
            self.task.ways.remove(leave)
            return leave.value
        self.pop(frame)
        return value

    def number_literals(self, method):
        """Which literal stands where in the text."""
        if id(method) not in self.places:
            found, symbols = {}, {}
            count = 0

            def go(tree, path):
                nonlocal count
                if tree[0] in ("str", "sym", "arr"):
                    if tree[0] == "sym" and tree[1] in symbols:
                        found[path] = symbols[tree[1]]
                    else:
                        found[path] = self.literals[method][count]
                        count += 1
                    if tree[0] == "sym":
                        symbols[tree[1]] = found[path]
                    return
                inner = list(tree[-1]) if tree[0] == "method" else parts(tree)
                for place, part in enumerate(inner):
                    go(part, path + (place,))
            go(method.parsed.tree, ())
            self.places[id(method)] = (found, method)
        return self.places[id(method)][0]

    def statements(self, trees, frame, path=()):
        value = None
        for place, tree in enumerate(trees):
            value = yield from self.work(tree, frame, path + (place,))
        return value

    def block_work(self, block, arguments, **more):
        closure = block.data
        _, parameters, variables, statements = closure.tree
        outer = closure.frame
        frame = self.push(Frame("block", method=outer.method, receiver=outer.receiver, around=outer, home=outer.home, block=block, **more))
        frame.plain = outer.plain
        frame.names = dict(zip(parameters, arguments), **{name: None for name in variables})
        try:
            value = None
            for place, tree in enumerate(statements):
                value = yield from self.work(tree, frame, closure.path + (place,))
        except Leave as leave:
            self.pop(frame)
            if leave.goal is not frame:
                raise
            self.task.ways.remove(leave)
            return leave.value
        self.pop(frame)
        return value

    def work(self, tree, frame, path):
        kind = tree[0]
        if kind == "int":
            return tree[1]
        if kind in ("str", "sym", "arr"):
            return self.number_literals(frame.method)[path]
        if kind == "var":
            return self.read(tree[1], frame)
        if kind == "set":
            value = yield from self.work(tree[2], frame, path + (0,))
            self.write(tree[1], frame, value)
            return value
        if kind == "block":
            self.count_made()
            thing = Thing(self.kind_named("Block"), Closure(tree, frame))
            thing.data.path = path
            return thing
        if kind == "return":
            value = yield from self.work(tree[1], frame, path + (0,))
            return (yield from self.leave_home(frame, value))
        if kind == "super":
            arguments = yield from self.all(tree[2], frame, path, 0)
            start = frame.method.kind.parent
            return (yield from self.send(frame.receiver, tree[1], arguments, start))
        if kind == "cascade":
            return (yield from self.cascade(tree, frame, path))
        if not frame.plain and is_in_place(tree):
            return (yield from self.in_place_work(tree, frame, path))
        receiver = yield from self.work(tree[1], frame, path + (0,))
        arguments = yield from self.all(tree[3], frame, path, 1)
        return (yield from self.send(receiver, tree[2], arguments))

    def all(self, trees, frame, path, first):
        values = []
        for place, tree in enumerate(trees):
            values.append((yield from self.work(tree, frame, path + (first + place,))))
        return values

    def cascade(self, tree, frame, path):
        receiver = yield from self.work(tree[1], frame, path + (0,))
        place = 1
        for selector, trees in tree[2]:
            arguments = yield from self.all(trees, frame, path, place)
            place += len(trees)
            value = yield from self.send(receiver, selector, arguments)
        return value

    def in_place_work(self, tree, frame, path):
        _, receiver, selector, arguments = tree
        if selector in LOOPS:
            while True:
                value = yield from self.through(receiver, frame, path + (0,))
                if not isinstance(value, bool):
                    return (yield from self.send(value, "mustBeBoolean", []))
                if value != LOOPS[selector]:
                    return None
                yield from self.through(arguments[0], frame, path + (1,))
                if self.rounds >= 5000:
                    raise Stopped("rounds")
                self.rounds += 1
        value = yield from self.work(receiver, frame, path + (0,))
        wanted, other = CHOICES[selector]
        if not isinstance(value, bool):
            return (yield from self.send(value, "mustBeBoolean", []))
        if value == wanted:
            return (yield from self.through(arguments[0], frame, path + (1,)))
        return (yield from self.through(arguments[1], frame, path + (2,))) if other == 1 and other is not True else other

    def through(self, block, frame, path):
        for name in block[2]:
            frame.names[name] = None
        value = None
        for place, tree in enumerate(block[3]):
            value = yield from self.work(tree, frame, path + (place,))
        return value

    def owner(self, name, frame):
        while frame is not None and name not in frame.names:
            frame = frame.around
        return frame

    def read(self, name, frame):
        if name in ("self", "nil", "true", "false"):
            return {"self": frame.receiver, "nil": None, "true": True, "false": False}[name]
        owner = self.owner(name, frame)
        if owner is not None:
            return owner.names[name]
        if name in frame.method.kind.field_names:
            return frame.receiver.parts[frame.method.kind.field_names.index(name)]
        return self.class_named(name)

    def write(self, name, frame, value):
        owner = self.owner(name, frame)
        if owner is not None:
            owner.names[name] = value
        else:
            frame.receiver.parts[frame.method.kind.field_names.index(name)] = value

    def begin_leave(self, leave):
        leave.barred = [frame for frame in self.task.stack if frame.kind == "handle" and frame.index >= leave.low]
        self.task.ways.append(leave)
        raise leave

    def leave_home(self, frame, value):
        if frame.kind == "method":
            self.task.ways.append(Leave(frame, frame.index, "return", value))
            raise self.task.ways[-1]
        if frame.home in self.task.stack:
            self.begin_leave(Leave(frame.home, frame.home.index, "return", value))
        value = yield from self.send(frame.block, "cannotReturn:", [value])
        self.task.ways.append(Leave(frame, frame.index, "return", value))
        raise self.task.ways[-1]

    def send(self, receiver, selector, arguments, start=None):
        kind = self.kind_of(receiver)
        start = start or kind
        if self.sends >= self.most_sends:
            raise Stopped("sends")
        self.sends += 1
        self.trace.append((len(self.task.stack), kind.name, selector))
        method = self.method_for(start, selector)
        if method is None:
            symbol = self.new_symbol(selector)
            message = self.new_instance(self.kind_named("Message"))
            message.parts = [symbol, self.new_array(list(arguments))]
            return (yield from self.send(receiver, "doesNotUnderstand:", [message], start))
        if not isinstance(method, Rule):
            return (yield from self.method(method, receiver, arguments))
        try:
            if method.direct:
                action = method.action
                return action(self, receiver, *arguments)
            work = self.rule(receiver, selector, arguments)
        except Refused as refusal:
            work = self.refusal(refusal.word)
        return (yield from work)

    def refusal(self, word):
        thing = self.new_instance(self.kind_named(word))
        return (yield from self.send(thing, "signal", []))

    def rule(self, receiver, selector, arguments):
        """What else is done by rule: checked at once, worked later."""
        if selector.startswith("perform:"):
            if not is_thing(arguments[0], "Symbol"):
                raise Refused("BadKind")
            text = arguments[0].data
            if text.count(":") * (text.endswith(":")) + (not text[:1].isalpha() and text in "+ - * // \\\\ < > <= >= = == ~= ~~ ,".split()) != len(arguments) - 1:
                raise Refused("WrongArguments")
            return self.send(receiver, text, arguments[1:])
        if receiver.kind.name == "Block":
            return self.block_rule(receiver, selector, arguments)
        if receiver.kind.is_kind_of("Exception"):
            return self.exception_rule(receiver, selector, arguments)
        return getattr(self, {"wait": "wait", "signal": "signal_one", "terminate": "terminate", "yield": "turn", "me": "me"}[selector])(receiver)

    def block_rule(self, block, selector, arguments):
        many = len(block.data.tree[1])
        if selector == "valueWithArguments:":
            if not is_thing(arguments[0], "Array"):
                raise Refused("BadKind")
            arguments = arguments[0].data
        if selector.startswith("value"):
            if many != len(arguments):
                raise Refused("WrongArguments")
            return self.block_work(block, arguments)
        if selector == "fork":
            if many:
                raise Refused("WrongArguments")
            return self.fork(block)
        if selector == "on:do:":
            caught, handler = arguments
            if not is_thing(handler, "Block") or len(handler.data.tree[1]) > 1 or not (isinstance(caught, Thing) and isinstance(caught.data, Kind)):
                raise Refused("BadKind")
            if many:
                raise Refused("WrongArguments")
            return self.on_do(block, caught.data.name, handler)
        if not is_thing(arguments[0], "Block"):
            raise Refused("BadKind")
        if many or arguments[0].data.tree[1]:
            raise Refused("WrongArguments")
        return self.ensure(block, arguments[0], selector == "ensure:")

    def ensure(self, block, argument, always):
        guard = self.push(Frame("guard", argument=argument))
        try:
            value = yield from self.block_work(block, ())
        except Leave as leave:
            guard.begun = True
            leave.guard = guard
            try:
                yield from self.block_work(argument, (), way=leave)
            except Leave as other:
                self.task.ways.remove(leave)
                self.pop(guard)
                raise other from None
            leave.guard = None
            self.pop(guard)
            raise leave from None
        if always:
            guard.begun = True
            try:
                yield from self.block_work(argument, ())
            except Leave:
                self.pop(guard)
                raise
        self.pop(guard)
        return value

    def on_do(self, block, caught, handler):
        guard = self.push(Frame("handle", caught=caught, argument=handler))
        while True:
            try:
                value = yield from self.block_work(block, ())
            except Leave as leave:
                if leave.goal is not guard:
                    self.pop(guard)
                    raise
                self.task.ways.remove(leave)
                if leave.word == "retry":
                    continue
                value = leave.value
            self.pop(guard)
            return value

    def exception_rule(self, thing, selector, arguments):
        if selector == "signal":
            return self.signal(thing, len(self.task.stack))
        frames = [frame for frame in self.task.stack if frame.handled is thing]
        if not frames:
            raise Refused("BadKind")
        frame = frames[-1]
        if selector == "pass":
            return self.signal(thing, frame.guard.index)
        if selector == "resume:":
            if thing.kind.is_kind_of("Error"):
                raise Refused("CannotResume")
            return self.leaving(Leave(frame.token, frame.index - 1, "resume", arguments[0]))
        return self.leaving(Leave(frame.guard, frame.guard.index, selector, arguments[0] if arguments else None))

    def leaving(self, leave):
        self.begin_leave(leave)
        yield

    def standing_ways(self):
        """The ways out under way that are not given up for a newer one."""
        found = []
        for way in reversed(self.task.ways):
            if way.guard is not None and all(newer.low >= way.guard.index for newer in found):
                found.append(way)
            elif way.guard is None:
                assert way is self.task.ways[-1]
        return found

    def signal(self, thing, below):
        barred = [frame for way in self.standing_ways() for frame in way.barred]
        for frame in self.task.stack:
            if frame.handled is not None:
                barred += self.task.stack[frame.guard.index:frame.index]
        for guard in reversed(self.task.stack[:below]):
            if guard.kind == "handle" and not any(guard is other for other in barred) and thing.kind.is_kind_of(guard.caught):
                token = object()
                arguments = (thing,) if guard.argument.data.tree[1] else ()
                try:
                    value = yield from self.block_work(guard.argument, arguments, handled=thing, guard=guard, token=token)
                except Leave as leave:
                    if leave.goal is token:
                        self.task.ways.remove(leave)
                        return leave.value
                    raise
                self.begin_leave(Leave(guard, guard.index, "return:", value))
        if thing.kind.is_kind_of("Error"):
            text = thing.parts[0]
            raise Dies(thing.kind.name + (": " + text.data if is_thing(text, "String") or is_thing(text, "Symbol") else ""))
        return None

    def fork(self, block):
        if len(self.tasks) == 8:
            raise Stopped("processes")
        self.count_made()
        task = Task(len(self.tasks))
        task.thing = Thing(self.kind_named("Process"), task)
        task.steps = self.task_steps(block)
        self.tasks.append(task)
        self.ready.append(task)
        return task.thing
        yield

    def me(self, receiver):
        if self.task.thing is None:
            self.task.thing = self.new_thing(self.kind_named("Process"), self.task)
        return self.task.thing
        yield

    def turn(self, receiver):
        self.ready.append(self.task)
        yield
        return receiver

    def wait(self, semaphore):
        if semaphore.data.count:
            semaphore.data.count -= 1
            return semaphore
        self.task.waits_at = semaphore
        semaphore.data.waiting.append(self.task)
        yield
        return semaphore

    def signal_one(self, semaphore):
        if semaphore.data.waiting:
            self.ready.append(semaphore.data.waiting.pop(0))
            self.ready[-1].waits_at = None
        else:
            semaphore.data.count += 1
        return semaphore
        yield

    def terminate(self, thing):
        task = thing.data
        if task.gone:
            return thing
        if task is self.task:
            self.begin_leave(Leave(task, -1, "end", None))
        self.ready = [other for other in self.ready if other is not task]
        if task.waits_at is not None:
            task.waits_at.data.waiting.remove(task)
        guards = [frame for frame in reversed(task.stack) if frame.kind == "guard" and not frame.begun]
        if any(frame.works_main for frame in task.stack):
            raise Ends(None)
        self.end_task(task)
        of_main = task.number == 0
        for guard in guards:
            try:
                yield from self.block_work(guard.argument, (), works_main=of_main)
            except Leave:
                if of_main:
                    raise Ends(None) from None
                raise
        if of_main:
            raise Ends(None)
        return thing


def is_thing(value, name):
    return isinstance(value, Thing) and value.is_a(name)
