"""The least sets of methods and classes that a program can reach."""

from imagetalk.facts import MAIN, Ledger, base_of
from imagetalk.kernel import PARENT_OF

# What is taken as standing in main.
GIVEN = ("doesNotUnderstand:", "mustBeBoolean", "cannotReturn:", "value", "value:", "value:value:",
         "valueWithArguments:", "signal")

# The messages by which Symbols come to be messages.
PERFORMING = ("perform:", "perform:with:", "respondsTo:")
MAKING_SYMBOLS = "asSymbol"


def reach_of(book):
    """What the program of a Book can reach."""
    reach = Reach(Ledger(book))
    reach.find_all()
    return reach


class Reach:
    """The methods and classes that are reached so far, and the messages that stand in those methods."""

    def __init__(self, ledger):
        self.ledger = ledger
        self.methods = {}
        self.live = {name: True for name in PARENT_OF}
        self.messages = {}
        self.stands = {}
        self.performs = False
        self.has_all = False
        self.waiting = []

    def find_all(self):
        """Finds all that is reached."""
        self.put_method(MAIN)
        for selector in GIVEN:
            self.put_message(selector)
        while self.waiting:
            self.go_through(self.waiting.pop())

    def put_method(self, key):
        """A method is reached."""
        if key not in self.methods:
            self.methods[key] = True
            self.waiting.append(key)

    def go_through(self, key):
        """Takes what stands in a method that is reached."""
        facts = self.ledger.facts(key)
        for name in facts.named:
            self.put_class(name)
        for selector in facts.plain:
            self.put_standing(selector)
            self.put_message(selector)
        for selector in facts.to_super:
            self.put_standing(selector)
            self.put_super(key, selector)
        if self.performs:
            self.put_symbols(key)

    def put_super(self, key, selector):
        """Takes a message to super."""
        name = self.ledger.super_found(key, selector)
        if name is None:
            self.put_message(selector)
        elif self.ledger.is_method((name, selector)):
            self.put_method((name, selector))

    def put_symbols(self, key):
        """Takes the Symbols in a method as messages."""
        for text in self.ledger.facts(key).texts:
            self.put_standing(text)
            self.put_message(text)

    def put_standing(self, selector):
        """A message stands in a method that is reached."""
        self.stands[selector] = True
        if selector in PERFORMING and not self.performs:
            self.performs = True
            for key in list(self.methods):
                if key not in self.waiting:
                    self.put_symbols(key)
        if self.performs and MAKING_SYMBOLS in self.stands and not self.has_all:
            self.has_all = True
            for name in list(self.live):
                self.put_methods_of(name)

    def put_message(self, selector):
        """A message reaches the methods of all live classes."""
        if selector not in self.messages:
            self.messages[selector] = True
            for key in self.targets(selector):
                self.put_method(key)

    def targets(self, selector):
        """The methods of live classes and of their NAME classes for a selector."""
        owners = self.ledger.owners.get(selector, [])
        return [(owner, selector) for owner in owners if base_of(owner) in self.live]

    def put_class(self, name):
        """A class is live, with all above it."""
        for above in self.ledger.book.line_of_class(name):
            if above not in self.live:
                self.live[above] = True
                self.put_methods_of(above)

    def put_methods_of(self, name):
        """A live class has the methods that are asked for by messages, or all of them."""
        for key in self.ledger.methods_of_both(name):
            if self.has_all or key[1] in self.messages:
                self.put_method(key)

    def reached_by(self, key):
        """The methods that what stands in a method reaches, but for the rule of asSymbol."""
        facts = self.ledger.facts(key)
        selectors = list(facts.plain)
        direct = []
        for selector in facts.to_super:
            name = self.ledger.super_found(key, selector)
            if name is None:
                selectors.append(selector)
            elif self.ledger.is_method((name, selector)):
                direct.append((name, selector))
        if self.performs:
            selectors.extend(facts.texts)
        if key == MAIN:
            selectors.extend(GIVEN)
        return (direct, selectors)
