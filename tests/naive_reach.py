"""Points 46 to 49 worked plainly, by looking everything up again and again."""

from imagetalk.classes import tower
from imagetalk.kernel import BY_RULE, PARENT_OF, kernel_texts
from imagetalk.trees import read_body, read_method
from imagetalk.treeways import selectors_of

MAIN = ("", "doIt")
GIVEN = "doesNotUnderstand: mustBeBoolean cannotReturn: value value: value:value: valueWithArguments: signal".split()
THREE = ("perform:", "perform:with:", "respondsTo:")


def own_methods(program):
    """The methods of the program with their trees, main among them."""
    found = {MAIN: read_body(program[1])}
    for name, _, _, _, methods, class_methods in program[0]:
        for owner, sources in ((name, methods), (name + " class", class_methods)):
            for source in sources:
                tree = read_method(source)
                found[(owner, tree[1])] = tree
    return found


def all_methods(program):
    found = own_methods(program)
    for owner, source in kernel_texts():
        tree = read_method(source)
        found[(owner, tree[1])] = tree
    return found


def parts(thing):
    """All tuples within a tree."""
    if isinstance(thing, tuple):
        yield thing
        for part in thing:
            yield from parts(part)


def sends_of(tree):
    supers = {part[1] for part in parts(tree) if part[:1] == ("super",)}
    plain = {part[2] for part in parts(tree) if part[:1] == ("send",)}
    plain |= {selector for part in parts(tree) if part[:1] == ("cascade",) for selector, _ in part[2]}
    assert plain | supers == set(selectors_of(tree))
    return plain, supers


def symbols_of(tree):
    return {part[1] for part in parts(tree) if part[:1] == ("sym",)}


def names_of(tree):
    return {part[1] for part in parts(tree) if part[:1] == ("var",) and part[1][0].isupper()}


class Naive:
    def __init__(self, program):
        self.program, self.methods = program, all_methods(program)
        self.own, self.parents = own_methods(program), {name: parent for name, _, parent in tower(program)}
        self.has = set(self.methods) | {(owner, selector) for owner, selectors in BY_RULE.items() for selector in selectors}
        self.reached, self.live = {MAIN}, set(PARENT_OF)
        while self.grow():
            pass

    def find(self, name, selector):
        """The class whose method is worked, None where there is none; the method may be one by rule."""
        while name is not None and (name, selector) not in self.has:
            name = self.parents[name]
        return name

    def targets(self, selector):
        found = {(self.find(start, selector), selector) for name in self.live for start in (name, name + " class")}
        return {key for key in found if key in self.methods}

    def above(self, key):
        return self.parents[key[0] if key != MAIN else "UndefinedObject"]

    def supers(self, key, selector):
        """What a message to super reaches, None if it is a plain one."""
        above = self.above(key)
        found = None if above is None else self.find(above, selector)
        if found is None:
            return None
        return {(found, selector)} & set(self.methods)

    def standing(self):
        """The selectors that stand in reached methods, Symbols among them if they do."""
        found = set()
        for key in self.reached:
            plain, supers = sends_of(self.methods[key])
            found |= plain | supers
        if found & set(THREE):
            for key in self.reached:
                found |= symbols_of(self.methods[key])
        return found

    def reached_by(self, key):
        plain, supers = sends_of(self.methods[key])
        if self.standing() & set(THREE):
            plain = plain | symbols_of(self.methods[key])
        if key == MAIN:
            plain = plain | set(GIVEN)
        found = set()
        for selector in supers:
            targets = self.supers(key, selector)
            found |= self.targets(selector) if targets is None else targets
        for selector in plain:
            found |= self.targets(selector)
        return found

    def grow(self):
        before = (len(self.reached), len(self.live))
        for key in list(self.reached):
            for name in names_of(self.methods[key]):
                while name is not None:
                    self.live.add(name)
                    name = self.parents[name]
        for key in list(self.reached):
            self.reached |= self.reached_by(key)
        standing = self.standing()
        if standing & set(THREE) and "asSymbol" in standing:
            self.reached |= {key for key in self.methods if key != MAIN and key[0].removesuffix(" class") in self.live}
        return (len(self.reached), len(self.live)) != before

    def not_understood(self):
        rows = set()
        for key in self.reached & set(self.own):
            plain, supers = sends_of(self.methods[key])
            for selector in plain | supers:
                if not any(self.find(start, selector) for name in self.live for start in (name, name + " class")):
                    rows.add((*key, selector))
        return sorted(rows)

    def calls(self):
        own = self.reached & set(self.own)
        return sorted((key, target) for key in own for target in self.reached_by(key) if target in own)

    def ringless(self):
        edges = {key: self.reached_by(key) for key in self.reached}
        rows = []
        for key in self.reached & set(self.own):
            seen, waiting = set(), list(edges[key])
            while waiting:
                other = waiting.pop()
                if other not in seen:
                    seen.add(other)
                    waiting.extend(edges[other])
            if key not in seen:
                rows.append(key)
        return sorted(rows)
