"""What all runs of one program have in common: its classes, and the methods that are found in them."""

from imagetalk.book import CLASS_WORD
from imagetalk.kernel import kernel_source
from imagetalk.parsing import parsed_method
from imagetalk.reader import BODY_SELECTOR
from imagetalk.rules import rule_of
from imagetalk.things import Kind, Method, Rule


class Stock:
    """The classes and methods of a program; placed has made methods by (class, selector).

    own has the methods of the program itself that were needed so far, lasting those of the kernel's classes, None where
    they have none, known what was found for (class, selector) from that class on. literal_keys tells the methods of the
    program that can have literals.
    """

    def __init__(self, program, book, placed):
        self.source_program = program
        self.book = book
        self.placed = placed
        self.kinds = {}
        self.own = {}
        self.lasting = {}
        self.known = {}
        self.literal_keys = self.keys_with_literals()
        self.main = Method(self.kind_named("UndefinedObject"), BODY_SELECTOR, book.main, tuple(book.main.literals))

    def kind_named(self, name):
        """The class with this name."""
        if name not in self.kinds:
            above = self.book.parent_of_class(name)
            parent = None if above is None else self.kind_named(above)
            own = name in self.book.own_names
            self.kinds[name] = Kind(name, parent, self.book.fields_of_class(name), own)
        return self.kinds[name]

    def method_for(self, kind, selector):
        """The method that an instance works for a selector, None if there is none."""
        key = (kind.name, selector)
        if key not in self.known:
            self.known[key] = self.searched(kind, selector)
        return self.known[key]

    def searched(self, kind, selector):
        """As method_for, looked for from the class on."""
        method = self.own_method(kind, selector)
        if method is None and kind.parent is not None:
            return self.method_for(kind.parent, selector)
        return method

    def own_method(self, kind, selector):
        """The method that a class has itself, None if it has none."""
        methods = self.book.methods
        if kind.name in methods:
            return self.method_of_program(kind.name, selector) if selector in methods[kind.name] else None
        key = (kind.name, selector)
        if key not in self.lasting:
            self.lasting[key] = kernel_method(kind, selector)
        return self.lasting[key]

    def method_of_program(self, name, selector):
        """The method of the program's own, or the made one that is put in its place."""
        key = (name, selector)
        if key not in self.own:
            parsed = self.book.methods[name][selector]
            trees = self.placed[key][1] if key in self.placed else tuple(parsed.literals)
            method = Method(self.kind_named(name), selector, parsed, trees)
            if key in self.placed:
                method.body = self.placed[key][2]
            self.own[key] = method
        return self.own[key]

    def keys_with_literals(self):
        """The methods of the program's classes that can have literals, as (class, selector), in order."""
        rows = []
        for name in self.book.own_names:
            for owner in (name, name + CLASS_WORD):
                for selector, parsed in self.book.methods[owner].items():
                    if parsed.literals or self.placed:
                        rows.append((owner, selector))
        return rows

    def methods_with_literals(self):
        """The methods that have literals, main at the end in any case."""
        methods = [self.method_of_program(owner, selector) for owner, selector in self.literal_keys]
        return [*[method for method in methods if method.trees], self.main]


def kernel_method(kind, selector):
    """The method that a class of the kernel has itself, None if it has none."""
    action, direct = rule_of(kind.name, selector)
    if action is not None:
        return Rule((kind.name, selector), action, direct)
    source = kernel_source(kind.name, selector)
    return None if source is None else Method(kind, selector, parsed_method(source), ())
