"""Trees of methods, and things like them, made by chance from a seed."""

OPERATORS = "+ - * // \\\\ < > <= >= = == ~= ~~ ,".split()
NAMES = ("a", "b", "c", "x1", "Foo", "self", "nil", "true")
STRANGE = (True, None, "a", "self", "P", "at:", "+", ("int", 3), ("var", "a"), ("return", ("int", 3)), (), ("int", True), "q1",
           "v1", "p1", 0, ("sym", "a\t"), ("str", "\x7f"), ("arr", (("var", "self"),)), ("var", "super"), [])


class Maker:
    def __init__(self, chance):
        self.chance = chance

    def text(self):
        return "".join(self.chance.choice("ab'\" :=\n#(~-+") for _ in range(self.chance.randint(0, 4)))

    def selector(self, count):
        if count == 0:
            return self.chance.choice(("foo", "bar", "nil", "super", "Foo"))
        if count == 1 and self.chance.random() < 0.5:
            return self.chance.choice(OPERATORS)
        return "".join(self.chance.choice(("k:", "at:", "put:")) for _ in range(count))

    def message(self, depth):
        count = self.chance.choice((0, 0, 1, 1, 1, 2, 3))
        return (self.selector(count), tuple(self.expression(depth) for _ in range(count)))

    def literal(self, depth):
        kind = self.chance.choice(("int", "str", "sym", "var", "arr"))
        if kind == "int":
            return (kind, self.chance.choice((0, 5, -3, 1 - 10 ** 60)))
        if kind == "str":
            return (kind, self.text())
        if kind == "sym":
            return (kind, self.chance.choice((self.text(), "foo", "nil", "at:", "at:put:", "-", "==", "self")))
        if kind == "var" or depth <= 0:
            return ("var", self.chance.choice(("nil", "true", "false")))
        return (kind, tuple(self.literal(depth - 1) for _ in range(self.chance.randint(0, 3))))

    def expression(self, depth):
        if depth <= 0:
            return self.chance.choice((("var", self.chance.choice(NAMES)), ("int", 3), ("int", -4), ("str", "x"), ("sym", "q")))
        kind = self.chance.choice(("literal", "set", "send", "send", "send", "super", "cascade", "block"))
        if kind == "literal":
            return self.literal(2)
        if kind == "set":
            return (kind, self.chance.choice("abc"), self.expression(depth - 1))
        if kind == "send":
            return (kind, self.expression(depth - 1), *self.message(depth - 1))
        if kind == "super":
            return (kind, *self.message(depth - 1))
        if kind == "cascade":
            messages = tuple(self.message(depth - 1) for _ in range(self.chance.randint(2, 3)))
            return (kind, self.expression(depth - 1), messages)
        parameters = tuple("p" + str(self.chance.randint(0, 9)) for _ in range(self.chance.choice((0, 0, 1, 2))))
        return (kind, parameters, *self.body(depth - 1))

    def body(self, depth):
        variables = tuple("v" + str(self.chance.randint(0, 9)) for _ in range(self.chance.choice((0, 0, 1, 2))))
        statements = [self.expression(depth) for _ in range(self.chance.randint(0, 3))]
        if statements and self.chance.random() < 0.4:
            statements[-1] = ("return", statements[-1])
        return variables, tuple(statements)

    def method(self):
        """Mostly the tree of a method; perhaps one with a name that is declared twice."""
        parameters = ("q0", "q1")[:self.chance.randint(0, 2)]
        return ("method", self.selector(len(parameters)), parameters, *self.body(self.chance.randint(0, 4)))

    def spoilt(self, tree):
        """The tree with another thing somewhere in it."""
        if isinstance(tree, tuple) and tree and self.chance.random() < 0.8:
            place = self.chance.randrange(len(tree))
            return (*tree[:place], self.spoilt(tree[place]), *tree[place + 1:])
        return self.chance.choice((*STRANGE, tree[:-1] if isinstance(tree, tuple) else 7))
