"""The objects of a run: classes, literals, and those that it makes."""

from imagetalk.classes import class_of_class
from imagetalk.book import CLASS_WORD
from imagetalk.things import Signals, Stopped, Thing

MOST_OBJECTS = 2000
MOST_SIGNS = 2000


# The objects ahead of the classes, by what is told of them.
FIRST_OBJECTS = ("nil", "true", "false")


class Image:
    """The objects of a run of a program.

    The first ones are nil, true, false and the classes, which are made when they are asked for; things has all others,
    in the order of their numbers.
    """

    def __init__(self, stock):
        self.stock = stock
        self.things = []
        self.classes = {}
        self.symbols = {}
        self.literals = {}
        self.made = 0

    def kind_named(self, name):
        """The class with this name."""
        return self.stock.kind_named(name)

    def class_named(self, name):
        """The object that is the class with this name."""
        if name not in self.classes:
            kind = self.stock.kind_named(class_of_class(name))
            self.classes[name] = Thing(kind, self.stock.kind_named(name))
        return self.classes[name]

    def class_thing(self, kind):
        """The object that is this class."""
        return self.class_named(kind.name)

    def kind_of(self, value):
        """The class of a value."""
        if isinstance(value, Thing):
            return value.kind
        if value is None:
            return self.stock.kind_named("UndefinedObject")
        if isinstance(value, bool):
            return self.stock.kind_named("True" if value else "False")
        return self.stock.kind_named("Integer")

    def method_for(self, kind, selector):
        """The method that an instance works for a selector, None if there is none."""
        return self.stock.method_for(kind, selector)

    def put(self, thing):
        """An object of the image, behind all others."""
        self.things.append(thing)
        return thing

    def first_told(self):
        """What is told of nil, true, false and the classes, by their numbers."""
        rows = list(FIRST_OBJECTS)
        for name in self.stock.book.parents:
            rows.append(name)
            rows.append(name + CLASS_WORD)
        return rows

    def first_many(self):
        """How many these first objects are."""
        return len(FIRST_OBJECTS) + 2 * len(self.stock.book.parents)

    def holder_at(self, number):
        """The object with this number, None for one of the first that is no class of the program's own by its name."""
        first = self.first_many()
        if number >= first:
            return self.things[number - first]
        names = self.stock.book.own_names
        at = number - first + 2 * len(names)
        return self.class_named(names[at // 2]) if at >= 0 and at & 1 == 0 else None

    def put_literals(self, method):
        """The literals of a method become objects."""
        self.literals[method] = [self.literal(tree) for tree in method.trees]

    def put_all_literals(self):
        """The literals of all methods of the program become objects."""
        for method in self.stock.methods_with_literals():
            self.put_literals(method)

    def literal(self, tree):
        """The object or integer that a literal is."""
        if tree[0] == "int":
            return tree[1]
        if tree[0] == "var":
            return {"nil": None, "true": True, "false": False}[tree[1]]
        if tree[0] == "str":
            return self.put(Thing(self.kind_named("String"), tree[1]))
        if tree[0] == "sym":
            return self.symbol_there(tree[1])
        items = [self.literal(item) for item in tree[1]]
        return self.put(Thing(self.kind_named("Array"), items))

    def symbol_there(self, text):
        """The Symbol with this text, which counts as there from the beginning."""
        if text not in self.symbols:
            self.symbols[text] = self.put(Thing(self.kind_named("Symbol"), text))
        return self.symbols[text]

    def count_made(self):
        """One object more is made."""
        if self.made >= MOST_OBJECTS:
            raise Stopped("objects")
        self.made += 1

    def put_made(self, thing):
        """An object of the image that the run has made."""
        return self.put(thing)

    def new_symbol(self, text):
        """The Symbol with this text, made if it was not there."""
        if text not in self.symbols:
            self.count_made()
            self.symbols[text] = self.put_made(Thing(self.kind_named("Symbol"), text))
        return self.symbols[text]

    def new_thing(self, kind, data):
        """A new object with these data."""
        self.count_made()
        return self.put_made(Thing(kind, data))

    def new_instance(self, kind):
        """A new object as `new` answers it."""
        data = None
        if kind.name == "String":
            data = ""
        elif kind.name == "Array":
            data = []
        elif kind.name == "Semaphore":
            data = Signals()
        return self.new_thing(kind, data)

    def new_text(self, text):
        """A new String."""
        if len(text) > MOST_SIGNS:
            raise Stopped("length")
        return self.new_thing(self.kind_named("String"), text)

    def new_array(self, items):
        """A new Array."""
        return self.new_thing(self.kind_named("Array"), items)
