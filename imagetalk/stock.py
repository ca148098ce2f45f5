"""What all runs of one program have in common: its classes, and the methods that are found in them."""

from imagetalk.book import CLASS_WORD
from imagetalk.kernel import BY_RULE, kernel_source
from imagetalk.parsing import parsed_method
from imagetalk.reader import BODY_SELECTOR
from imagetalk.rules import rule_of
from imagetalk.things import Kind, Method, Rule


class Stock:
    """The classes and methods of a program; placed has made methods by (class, selector).

    own has the methods of the program itself that were needed so far, lasting those of the kernel's classes, None where
    they have none, known what was found for (class, selector) from that class on. literal_keys tells the methods of the
    program that can have literals.
    """

    def __init__(self, program, book, placed):
        self.source_program = program
        self.book = book
        self.placed = placed
        self.kinds = {}
        self.own = {}
        self.lasting = {}
        self.known = {}
        self.literal_keys = self.keys_with_literals()
        self.main = Method(self.kind_named("UndefinedObject"), BODY_SELECTOR, book.main, tuple(book.main.literals))

    def kind_named(self, name):
        """The class with this name."""
        kind = self.kinds.get(name)
        if kind is None:
            book = self.book
            above = book.parent_of_class(name)
            parent = None if above is None else self.kind_named(above)
            fields = () if parent is None else parent.field_names
            kind = Kind(name, parent, fields + book.own_fields.get(name, ()), name in book.own_names)
            self.kinds[name] = kind
        return kind

    def method_for(self, kind, selector):
        """The method that an instance works for a selector, None if there is none."""
        key = (kind.name, selector)
        found = self.known.get(key)
        if found is None and key not in self.known:
            found = self.searched(kind, selector)
            self.known[key] = found
        return found

    def searched(self, kind, selector):
        """As method_for, looked for from the class on."""
        methods = self.book.methods
        while kind is not None:
            if kind.name not in methods:
                found = self.method_of_kernel(kind, selector)
                if found is not None:
                    return found
            elif selector in methods[kind.name]:
                return self.method_of_program(kind.name, selector)
            kind = kind.parent
        return None

    def method_of_kernel(self, kind, selector):
        """The method that a class of the kernel has itself, None if it has none."""
        key = (kind.name, selector)
        if key not in self.lasting:
            self.lasting[key] = kernel_method(kind, selector)
        return self.lasting[key]

    def method_of_program(self, name, selector):
        """The method of the program's own, or the made one that is put in its place."""
        key = (name, selector)
        method = self.own.get(key)
        if method is None:
            parsed = self.book.methods[name][selector]
            if key in self.placed:
                _, trees, body = self.placed[key]
                method = Method(self.kind_named(name), selector, parsed, trees)
                method.body = body
            else:
                method = Method(self.kind_named(name), selector, parsed, tuple(parsed.literals))
            self.own[key] = method
        return method

    def keys_with_literals(self):
        """The methods of the program's classes that can have literals, as (class, selector), in order."""
        rows = []
        for name in self.book.own_names:
            for owner in (name, name + CLASS_WORD):
                for selector, parsed in self.book.methods[owner].items():
                    if parsed.literals or self.placed:
                        rows.append((owner, selector))
        return rows

    def methods_with_literals(self):
        """The methods that have literals, main at the end in any case."""
        methods = [self.method_of_program(owner, selector) for owner, selector in self.literal_keys]
        return [*[method for method in methods if method.trees], self.main]


def kernel_method(kind, selector):
    """The method that a class of the kernel has itself, None if it has none."""
    if selector in BY_RULE.get(kind.name, ()):
        action, direct = rule_of(kind.name, selector)
        return Rule((kind.name, selector), action, direct)
    source = kernel_source(kind.name, selector)
    return None if source is None else Method(kind, selector, parsed_method(source), ())
