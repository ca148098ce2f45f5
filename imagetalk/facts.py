"""What stands in methods: messages, Symbols and names of classes; and which methods there are to look at."""

from imagetalk.book import CLASS_WORD
from imagetalk.kernel import TEXTS, kernel_source
from imagetalk.parsing import parsed_method
from imagetalk.treeparts import parts_of

# How main is named among methods.
MAIN = ("", "doIt")


class Facts:
    """What stands in a method, each thing once: selectors of messages and of those to super, Symbols and classes."""

    def __init__(self, sends, supers, symbols, names):
        self.plain = sends
        self.to_super = supers
        self.texts = symbols
        self.named = names


def facts_of(tree):
    """What stands in the tree of a method."""
    sends, supers, symbols, names = {}, {}, {}, {}
    waiting = [tree]
    while waiting:
        part = waiting.pop()
        kind = part[0]
        if kind == "send":
            sends[part[2]] = True
        elif kind == "super":
            supers[part[1]] = True
        elif kind == "cascade":
            for selector, _ in part[2]:
                sends[selector] = True
        elif kind == "sym":
            symbols[part[1]] = True
        elif kind == "var" and part[1][0].isupper():
            names[part[1]] = True
        waiting.extend(parts_of(part))
    return Facts(list(sends), list(supers), list(symbols), list(names))


class Ledger:
    """The methods with a source of a program and of the kernel, with what stands in each one."""

    def __init__(self, book):
        self.book = book
        self.seen = {}
        self.owners = {}
        for owner, rows in TEXTS.items():
            for selector, _ in rows:
                self.owners.setdefault(selector, []).append(owner)
        for owner, methods in book.methods.items():
            for selector in methods:
                self.owners.setdefault(selector, []).append(owner)

    def own_keys(self):
        """The methods of the program, main among them."""
        rows = [(owner, selector) for owner, methods in self.book.methods.items() for selector in methods]
        return [MAIN, *rows]

    def methods_of_both(self, name):
        """The methods with a source that a class and its NAME class have themselves."""
        rows = []
        for owner in (name, name + CLASS_WORD):
            if owner in self.book.methods:
                rows.extend([(owner, selector) for selector in self.book.methods[owner]])
            else:
                rows.extend([(owner, selector) for selector, _ in TEXTS.get(owner, ())])
        return rows

    def is_method(self, thing):
        """Whether any object names a method with a source."""
        if not isinstance(thing, tuple) or len(thing) != 2:
            return False
        name, selector = thing
        if not isinstance(name, str) or not isinstance(selector, str):
            return False
        return thing == MAIN or name in self.owners.get(selector, [])

    def facts(self, key):
        """What stands in a method with a source."""
        if key not in self.seen:
            self.seen[key] = facts_of(self.tree_of(key))
        return self.seen[key]

    def tree_of(self, key):
        """The tree of a method with a source."""
        if key == MAIN:
            return self.book.main.tree
        name, selector = key
        if name in self.book.methods:
            return self.book.methods[name][selector].tree
        parsed = parsed_method(kernel_source(name, selector))
        return parsed.tree

    def found(self, name, selector):
        """The class from this one on that has a method for a selector, None if there is none."""
        while name is not None and selector not in self.book.selectors_of_class(name):
            name = self.book.parent_of_class(name)
        return name

    def super_found(self, key, selector):
        """The class that has the method which a message to super in a method works, None if there is none."""
        name = "UndefinedObject" if key == MAIN else key[0]
        above = self.book.parent_of_class(name)
        return None if above is None else self.found(above, selector)


def base_of(name):
    """The class of which this is the NAME class, itself if it is none."""
    return name.removesuffix(CLASS_WORD)
