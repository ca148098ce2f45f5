"""An expression while it is read, word by word."""

# What super and the messages behind a `;` are sent to while they are read. Neither is a tree that is ever answered.
SUPER = ("var", "super")
CASCADED = ("cascade",)


def sent(subject, selector, arguments):
    """The tree of a message."""
    if subject == SUPER:
        return ("super", selector, arguments)
    return ("send", subject, selector, arguments)


class Line:
    """An expression: what it sets, its cascade, and its messages of keywords and operators that want arguments yet."""

    def __init__(self, in_paren):
        self.in_paren = in_paren
        self.names = []
        self.receiver = None
        self.messages = []
        self.head = None
        self.selector = ""
        self.arguments = []
        self.left = None
        self.operator = ""
        self.operand = None
        self.newest = None

    def is_fresh(self):
        """Whether a primary that comes now has nothing but names to be set ahead of it."""
        return self.left is None and self.head is None

    def take(self, tree):
        """A primary has been read."""
        self.operand = tree
        self.newest = None

    def send(self, subject, selector, arguments):
        """A message is complete."""
        self.newest = (subject, selector, arguments)
        self.operand = sent(subject, selector, arguments)

    def super_fits(self, kind):
        """Whether a word of this kind, behind super, begins a message to it."""
        if kind == "op":
            return self.left is None
        return kind == "name" or (kind == "keyword" and self.left is None and self.head is None)

    def wants_message(self):
        """Whether a `;` stands directly ahead."""
        return self.operand == CASCADED

    def message_fits(self, kind):
        """Whether a word of this kind goes on with a message here: behind a `;` there is room for one alone."""
        if not self.messages or self.wants_message() or self.head is not None:
            return kind in ("name", "op", "keyword")
        return kind == "name" and self.left is not None

    def put_name(self, name):
        """A unary message has been read."""
        self.send(self.operand, name, ())

    def put_operator(self, operator):
        """An operator has been read."""
        self.close_operator()
        self.left = self.operand
        self.operator = operator
        self.operand = None

    def put_keyword(self, selector):
        """A keyword has been read, with which the selector is this one."""
        self.close_operator()
        if self.head is None:
            self.head = self.operand
        else:
            self.arguments.append(self.operand)
        self.selector = selector
        self.operand = None

    def close_operator(self):
        """The argument of the operator, if there is one, is complete."""
        if self.left is not None:
            self.send(self.left, self.operator, (self.operand,))
            self.left = None

    def close_message(self):
        """The outermost message, if there is one, is complete."""
        self.close_operator()
        if self.head is not None:
            self.send(self.head, self.selector, (*self.arguments, self.operand))
            self.head = None
            self.selector = ""
            self.arguments = []

    def cascade_fits(self):
        """Whether a `;` can stand here: behind a message, not to super."""
        if self.head is not None:
            return self.head != SUPER
        if self.left is not None:
            return self.left != SUPER
        return self.newest is not None and self.newest[0] != SUPER

    def put_cascade(self):
        """A `;` has been read."""
        self.close_message()
        subject, selector, arguments = self.newest
        if not self.messages:
            self.receiver = subject
        self.messages.append((selector, arguments))
        self.take(CASCADED)

    def value(self):
        """The tree of the whole expression, which is complete."""
        self.close_message()
        tree = self.operand
        if self.messages:
            tree = ("cascade", self.receiver, (*self.messages, self.newest[1:]))
        for name in reversed(self.names):
            tree = ("set", name, tree)
        return tree
