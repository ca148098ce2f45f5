"""Whether sets of methods and classes are closed under what reaches what."""

from imagetalk.book import CLASS_WORD
from imagetalk.facts import MAIN
from imagetalk.kernel import PARENT_OF
from imagetalk.reaching import GIVEN, MAKING_SYMBOLS, PERFORMING


def paper_holds(ledger, thing):
    """Whether any object is a reach paper."""
    if not isinstance(thing, tuple) or len(thing) != 2:
        return False
    methods, classes = thing
    if not isinstance(methods, tuple) or not isinstance(classes, tuple):
        return False
    if not all([ledger.is_method(key) for key in methods]):
        return False
    if not all([isinstance(name, str) and name in ledger.book.parents for name in classes]):
        return False
    paper = Paper(ledger, methods, classes)
    if len(paper.methods) != len(methods) or len(paper.classes) != len(classes):
        return False
    return paper.has_least() and paper.is_closed()


class Paper:
    """Methods and classes that are told to be all that can be reached."""

    def __init__(self, ledger, methods, classes):
        self.ledger = ledger
        self.methods = {key: True for key in methods}
        self.classes = {name: True for name in classes}
        self.stands = {selector: True for key in methods for selector in self.selectors_in(key)}
        self.performs = self.has_performing()
        if self.performs:
            for key in methods:
                for text in ledger.facts(key).texts:
                    self.stands[text] = True
        self.known = {}

    def selectors_in(self, key):
        """The selectors of the messages that stand in a method."""
        facts = self.ledger.facts(key)
        return [*facts.plain, *facts.to_super]

    def has_performing(self):
        """Whether a message stands there by which Symbols are messages."""
        return any([selector in self.stands for selector in PERFORMING])

    def has_least(self):
        """Whether main and the kernel's classes are there."""
        return MAIN in self.methods and all([name in self.classes for name in PARENT_OF])

    def is_closed(self):
        """Whether nothing else is reached."""
        if self.performs and MAKING_SYMBOLS in self.stands and not self.has_all_methods():
            return False
        messages = {selector: True for selector in GIVEN}
        for key in self.methods:
            if not self.classes_are_there(key) or not self.supers_are_there(key):
                return False
            for selector in self.messages_in(key):
                messages[selector] = True
        return all([self.targets_are_there(selector) for selector in messages])

    def has_all_methods(self):
        """Whether all methods of the classes are there."""
        return all([key in self.methods for name in self.classes for key in self.ledger.methods_of_both(name)])

    def classes_are_there(self, key):
        """Whether the classes that a method names are there, with all above them."""
        book = self.ledger.book
        names = self.ledger.facts(key).named
        return all([above in self.classes for name in names for above in book.line_of_class(name)])

    def supers_are_there(self, key):
        """Whether the methods are there that messages to super in a method find."""
        for selector in self.ledger.facts(key).to_super:
            target = (self.ledger.super_found(key, selector), selector)
            if self.ledger.is_method(target) and target not in self.methods:
                return False
        return True

    def messages_in(self, key):
        """What stands in a method and reaches the methods of all classes."""
        facts = self.ledger.facts(key)
        lost = [selector for selector in facts.to_super if self.ledger.super_found(key, selector) is None]
        return [*facts.plain, *lost, *facts.texts] if self.performs else [*facts.plain, *lost]

    def targets_are_there(self, selector):
        """Whether all methods are there that instances of the classes and of their NAME classes work for a selector."""
        if selector not in self.ledger.owners:
            return True
        for name in self.classes:
            for start in (name, name + CLASS_WORD):
                target = (self.found(start, selector), selector)
                if self.ledger.is_method(target) and target not in self.methods:
                    return False
        return True

    def found(self, name, selector):
        """The class from this one on that has a method for a selector, None if there is none."""
        key = (name, selector)
        if key not in self.known:
            if selector in self.ledger.book.selectors_of_class(name):
                self.known[key] = name
            else:
                above = self.ledger.book.parent_of_class(name)
                self.known[key] = None if above is None else self.found(above, selector)
        return self.known[key]
