"""Programs made by chance from a seed: of all kinds, and full of ways out, handlers and processes."""

SIGNS = "abcdefghijklmnopqrstuvwxyzABCDEFGHIJKLMNOPQRSTUVWXYZ"
SELECTORS = ("foo", "bar: x", "baz", "+ x", "at: x put: y", "value", "isNil", "printString", "doesNotUnderstand: x", "signal", "new",
             "mustBeBoolean", "= x")
UNARY = ("printString size class isNil not copy name reversed asSymbol yourself value new numArgs abs isEmpty signal retry pass terminate fork wait "
         "text").split()
ATOMS = ("1", "2", "0", "-3", "3", "nil", "true", "false", "'ab'", "#foo", "#bar:", "#(1 a 'z')", "self", "Transcript", "Object", "Error", "Array",
         "Exception")
AT_LAST = ("E return: 5", "E retry", "E resume: 6", "E pass", "E signal", "E text", "E", "7", "E return", "E resume", "1 // 0", "E signal: 'q'",
           "E message selector")
WAYS_AT_LAST = ("E return: 5", "E resume: 6", "E pass", "E signal", "E return: 7", "9", "E pass. 4", "^ 3", "[E return: 1] ensure: B",
                "[E resume: 2] ensure: B", "[E pass] ensure: B", "[E retry] ifCurtailed: [^ 4]", "[E signal] on: Exception do: [:W | W return: 2]")


class ProgramMaker:
    """Programs of all kinds."""

    def __init__(self, chance):
        self.chance = chance
        self.names = 0
        self.classes = []

    def fresh(self):
        self.names += 1
        return f"v{self.names}"

    def program(self):
        chance = self.chance
        definitions = []
        for number in range(chance.randint(0, 3)):
            parent = chance.choice(["Object", "Exception", "Error"] + self.classes)
            fields = (f"f{number}",) if chance.random() < 0.6 else ()
            class_fields = (f"g{number}",) if chance.random() < 0.3 else ()
            above = self.fields_above(definitions, parent, 2) + list(fields)
            class_above = self.fields_above(definitions, parent, 3) + list(class_fields)
            self.classes.append(f"K{number}")
            definitions.append((f"K{number}", parent, fields, class_fields, self.methods(chance.randint(0, 4), above),
                                self.methods(chance.randint(0, 2), class_above)))
        main = self.body([], ["a", "b", "p"], chance.randint(2, 4), 4, 0.8)
        return (tuple(definitions), f"| a b p | a := {self.atom([])}. {main}")

    def fields_above(self, definitions, parent, part):
        found = []
        for definition in reversed(definitions):
            if definition[0] == parent:
                found = list(definition[part]) + found
                parent = definition[1]
        return found

    def methods(self, many, fields):
        found = {}
        for _ in range(many):
            pattern = self.chance.choice(SELECTORS)
            parameters = [word for word in pattern.split() if word in ("x", "y")]
            variables = [self.fresh()] if self.chance.random() < 0.4 else []
            declared = f"| {variables[0]} | " if variables else ""
            found[pattern] = f"{pattern} {declared}" + self.body(parameters, variables + fields, self.chance.randint(1, 2), 3, 0.5)
        return tuple(found.values())

    def body(self, parameters, variables, depth, most, returns):
        rows = [self.expression(parameters, variables, depth) for _ in range(self.chance.randint(1, most))]
        if self.chance.random() < returns:
            rows[-1] = "^ " + rows[-1]
        return ". ".join(rows)

    def block(self, parameters, variables, depth, many=0):
        chance = self.chance
        own = [self.fresh() for _ in range(many)]
        local = [self.fresh()] if chance.random() < 0.2 else []
        least = 1 if own or local else 0
        rows = [self.expression(parameters + own, variables + local, depth - 1) for _ in range(chance.randint(least, 2))]
        if rows and chance.random() < 0.15:
            rows[-1] = "^ " + rows[-1]
        head = "".join(f":{name} " for name in own) + ("| " if own else "") + (f"| {local[0]} | " if local else "")
        return "[" + head + ". ".join(rows) + "]"

    def atom(self, names):
        return self.chance.choice(list(ATOMS) + self.classes + names * 3)

    def expression(self, parameters, variables, depth):
        chance = self.chance
        names = parameters + variables
        if depth <= 0 or chance.random() < 0.15:
            return self.atom(names)
        text = chance.choice(self.forms(parameters, variables, depth))
        if text == "HANDLE":
            return self.handling(parameters, variables, depth)
        for word, make in (("E", lambda: "(" + self.expression(parameters, variables, depth - 1) + ")"), ("A", lambda: self.atom(names)),
                           ("B0", lambda: self.block(parameters, variables, depth)), ("B1", lambda: self.block(parameters, variables, depth, 1)),
                           ("B2", lambda: self.block(parameters, variables, depth, 2)), ("OP", lambda: chance.choice("+ - * // \\\\ < > <= = == ~= ,".split())),
                           ("UN", lambda: chance.choice(UNARY)), ("V", lambda: chance.choice(variables)), ("T", lambda: chance.choice(("true", "false")))):
            text = " ".join(make() if part == word else part for part in text.split(" "))
        return text

    def forms(self, parameters, variables, depth):
        forms = ["E OP E", "E OP E", "T ifTrue: B0", "E ifFalse: B0", "T and: B0", "E or: B0", "T ifTrue: B0 ifFalse: B0", "E ifFalse: B0 ifTrue: B0",
                 "B0 whileTrue: B0", "B0 whileFalse: B0", "B0 value", "B1 value: E", "B2 value: E value: E", "B0 ensure: B0", "B0 ensure: B0", "B0 ifCurtailed: B0",
                 "HANDLE", "HANDLE", "HANDLE", "HANDLE", "Exception new signal", "Error new signal", "Exception signal: E", "E foo", "E bar: E", "E at: E put: E",
                 "E UN", "E UN", "E UN", "Transcript show: E", "B0 fork", "Processor yield", "Processor me", "Processor me terminate", "Semaphore new signal; wait",
                 "Semaphore new wait", "E become: E", "E perform: #foo", "E perform: A", "E perform: #bar: with: E", "E perform: A with: E", "2 timesRepeat: B0",
                 "1 to: 3 do: B1", "#(1 2 3) do: B1", "#(1 2 3) collect: B1", "E foo; bar: E ; isNil", "super foo", "super printString", "super bar: E",
                 "E respondsTo: A", "E isKindOf: E", "true ifTrue: E", "B1 valueWithArguments: E"]
        if variables:
            forms += ["V := E", "V := B0", "V := B0 fork", "V terminate", "V value"]
        return forms + [f"{name} new {selector}" for name in self.classes for selector in ("foo", "baz", "signal")]

    def handling(self, parameters, variables, depth):
        chance = self.chance
        name = self.fresh()
        last = chance.choice(AT_LAST).replace("E", name)
        if chance.random() < 0.4:
            last = self.expression(parameters + [name], variables, depth - 1) + ". " + last
        elif chance.random() < 0.3:
            last = f"[{last}] ensure: " + self.block(parameters + [name], variables, depth)
        caught = chance.choice(["Error", "Exception", "ZeroDivide", "NotUnderstood", "BadKind", "Error class"] + self.classes)
        return self.block(parameters, variables, depth) + f" on: {caught} do: [:{name} | {last}]"


class WayMaker:
    """Programs full of ways out, handlers and processes."""

    def __init__(self, chance):
        self.chance = chance
        self.names = 0
        self.shown = 0

    def fresh(self):
        self.names += 1
        return f"v{self.names}"

    def show(self):
        self.shown += 1
        return f"Transcript show: '{SIGNS[self.shown % len(SIGNS)]}'"

    def program(self):
        chance = self.chance
        methods = ("run: b ^ b value", "ret: b ^ [b value] value", "m ^ " + self.expression(["self"], 3), f"n [{self.statements(['self'], 3)}] value. ^ 7",
                   f"k: b {self.expression(['b'], 2)}. ^ 8")
        classes = (("X", "Object", (), (), methods, ()), ("Ex", "Exception", (), (), ("keep ^ self signal",), ()), ("Er", "Error", (), (), (), ()))
        names = ["p", "q", "s", "x"]
        rows = ["s := Semaphore new", "x := X new"]
        if chance.random() < 0.6:
            rows.append(f"p := {self.block(names, 2)} fork")
        if chance.random() < 0.6:
            rows.append("q := Processor me")
        rows += [self.statement(names, 4) for _ in range(chance.randint(1, 3))]
        return (classes, "| p q s x | " + ". ".join(rows) + ". ^ " + self.expression(names, 3))

    def statements(self, names, depth):
        rows = [self.statement(names, depth) for _ in range(self.chance.randint(1, 3))]
        if self.chance.random() < 0.25:
            rows[-1] = "^ " + self.chance.choice("123")
        return ". ".join(rows)

    def statement(self, names, depth):
        return self.show() if self.chance.random() < 0.25 else self.expression(names, depth)

    def block(self, names, depth):
        return "[" + self.statements(names, depth - 1) + "]"

    def expression(self, names, depth):
        chance = self.chance
        if depth <= 0:
            return chance.choice(("3", "Exception signal", "Error signal", "1 // 0", "Ex signal", "Er signal", "Processor yield", "1 foo", self.show(), "nil"))
        forms = ["B ensure: B"] * 4 + ["HANDLE"] * 5 + ["SIGNAL"] * 2 + ["Processor yield"] * 2
        forms += ["B ifCurtailed: B", "B value", "X new m", "X new n", "X new run: B", "X new ret: B", "Processor me terminate", "B fork", "3 timesRepeat: B",
                  "true ifTrue: B", "SHOW"]
        if "p" in names:
            forms += ["x m", "x n", "x run: B", "x ret: B", "x k: B", "p terminate", "q terminate", "s wait", "s signal", "p := B fork"]
        if "b" in names:
            forms.append("b value")
        handled = [name for name in names if name.startswith("v")]
        if handled:
            forms += [chance.choice(handled) + word for word in (" return: 8", " resume: 9", " pass", " signal", " retry", " return", " resume")][:4]
        text = chance.choice(forms)
        if text == "HANDLE":
            return self.handling(names, depth)
        if text == "SHOW":
            return self.show()
        if text == "SIGNAL":
            return chance.choice(("Exception signal", "Error signal", "Ex signal", "Er signal", "1 // 0", "Ex new keep"))
        return " ".join(self.block(names, depth) if word == "B" else word for word in text.split(" "))

    def handling(self, names, depth):
        name = self.fresh()
        rows = [self.statement(names + [name], depth - 1) for _ in range(self.chance.randint(0, 2))]
        last = self.chance.choice(WAYS_AT_LAST).replace("W", f"w{self.names}").replace("[E", "[" + name)
        words = [name if word == "E" else self.block(names + [name], depth - 1) if word == "B" else word for word in last.split(" ")]
        caught = self.chance.choice(("Error", "Exception", "Ex", "Er", "Exception", "Error", "ZeroDivide"))
        return self.block(names, depth) + f" on: {caught} do: [:{name} | " + ". ".join(rows + [" ".join(words)]) + "]"
