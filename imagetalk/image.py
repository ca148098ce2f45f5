"""The objects of a run: classes, literals, and those that it makes."""

from imagetalk.book import CLASS_WORD
from imagetalk.classes import class_of_class
from imagetalk.kernel import kernel_source
from imagetalk.parsing import parsed_method
from imagetalk.rules import rule_of
from imagetalk.things import Kind, Method, Rule, Signals, Stopped, Thing

MOST_OBJECTS = 2000
MOST_SIGNS = 2000


class Image:
    """The classes and objects of a program that is run; placed has made methods by (class, selector)."""

    def __init__(self, book, placed):
        self.book = book
        self.placed = placed
        self.kinds = {}
        self.symbols = {}
        self.literals = {}
        self.made = 0
        self.integer = None

    def kind_named(self, name):
        """The class with this name."""
        if name not in self.kinds:
            above = self.book.parent_of_class(name)
            parent = None if above is None else self.kind_named(above)
            self.kinds[name] = Kind(name, parent, self.book.fields_of_class(name))
        return self.kinds[name]

    def class_named(self, name):
        """The object that is the class with this name."""
        return self.class_thing(self.kind_named(name))

    def class_thing(self, kind):
        """The object that is this class."""
        if kind.thing is None:
            kind.thing = Thing(self.kind_named(class_of_class(kind.name)), kind)
        return kind.thing

    def kind_of(self, value):
        """The class of a value."""
        if isinstance(value, Thing):
            return value.kind
        if value is None:
            return self.kind_named("UndefinedObject")
        if isinstance(value, bool):
            return self.kind_named("True" if value else "False")
        if self.integer is None:
            self.integer = self.kind_named("Integer")
        return self.integer

    def method_for(self, kind, selector):
        """The method that an instance works for a selector, None if there is none."""
        if selector not in kind.known:
            kind.known[selector] = self.searched(kind, selector)
        return kind.known[selector]

    def searched(self, kind, selector):
        """As method_for, looked for from the class on."""
        method = self.own_method(kind, selector)
        if method is None and kind.parent is not None:
            return self.method_for(kind.parent, selector)
        return method

    def own_method(self, kind, selector):
        """The method that a class has itself, None if it has none."""
        parsed = self.book.own_methods(kind.name).get(selector)
        if parsed is not None:
            return self.method_of_program(kind, selector, parsed)
        action, direct = rule_of(kind.name, selector)
        if action is not None:
            return Rule(action, direct)
        source = kernel_source(kind.name, selector)
        if source is not None:
            return Method(kind, selector, parsed_method(source), [])
        return None

    def method_of_program(self, kind, selector, parsed):
        """The method of the program's own, or the made one that is put in its place."""
        key = (kind.name, selector)
        method = Method(kind, selector, parsed, self.literals.get(key, []))
        if key in self.placed:
            method.body = self.placed[key][2]
        return method

    def put_literals(self, name, selector, parsed):
        """The literals of a method become objects."""
        key = (name, selector)
        trees = self.placed[key][1] if key in self.placed else parsed.literals
        if trees:
            self.literals[key] = [self.literal(tree) for tree in trees]

    def put_all_literals(self):
        """The literals of all methods of the program become objects; returns those of main."""
        for name in self.book.own_names:
            for owner in (name, name + CLASS_WORD):
                for selector, parsed in self.book.methods[owner].items():
                    self.put_literals(owner, selector, parsed)
        return [self.literal(tree) for tree in self.book.main.literals]

    def literal(self, tree):
        """The object or integer that a literal is."""
        if tree[0] == "int":
            return tree[1]
        if tree[0] == "var":
            return {"nil": None, "true": True, "false": False}[tree[1]]
        if tree[0] == "str":
            return Thing(self.kind_named("String"), tree[1])
        if tree[0] == "sym":
            return self.symbol_there(tree[1])
        items = [self.literal(item) for item in tree[1]]
        return Thing(self.kind_named("Array"), items)

    def symbol_there(self, text):
        """The Symbol with this text, which counts as there from the beginning."""
        if text not in self.symbols:
            self.symbols[text] = Thing(self.kind_named("Symbol"), text)
        return self.symbols[text]

    def count_made(self):
        """One object more is made."""
        if self.made >= MOST_OBJECTS:
            raise Stopped("objects")
        self.made += 1

    def new_symbol(self, text):
        """The Symbol with this text, made if it was not there."""
        if text not in self.symbols:
            self.count_made()
        return self.symbol_there(text)

    def new_thing(self, kind, data):
        """A new object with these data."""
        self.count_made()
        return Thing(kind, data)

    def new_instance(self, kind):
        """A new object as `new` answers it."""
        data = None
        if kind.name == "String":
            data = ""
        elif kind.name == "Array":
            data = []
        elif kind.name == "Semaphore":
            data = Signals()
        return self.new_thing(kind, data)

    def new_text(self, text):
        """A new String."""
        if len(text) > MOST_SIGNS:
            raise Stopped("length")
        return self.new_thing(self.kind_named("String"), text)

    def new_array(self, items):
        """A new Array."""
        return self.new_thing(self.kind_named("Array"), items)
