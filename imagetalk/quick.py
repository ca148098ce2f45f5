"""Words to trees by recursion, where brackets do not lie too deep: much faster than `reader`, which takes all others.

What cannot be read so, for whatever reason, raises Unsure.
"""

from imagetalk.names import LONGEST_SELECTOR, MOST_PARAMETERS, SPOKEN_WORDS

# How many brackets and sets are read within one another.
MOST_NESTED = 30

# The names that are never free; as if they were parameters, since they cannot be set.
KNOWN = {"self": True, "nil": True, "true": True, "false": True}


class Unsure(Exception):
    """The words are left to the reader that tells what bars them."""


class Quick:
    """The words of a source that are left, the last one first, and what is known of those that were read.

    free has the names that are read or set where they are not declared, literals the strings, symbols and arrays, like
    symbols once, keeps tells whether a block has variables of its own.
    """

    def __init__(self, words):
        self.words = [("end", "", 0)] + list(reversed(words))
        self.known = dict(KNOWN)
        self.free = {}
        self.declared = []
        self.literals = []
        self.keeps = False
        self.nested = 0

    def declare(self, names, as_parameter):
        """Reads a parameter or a variable."""
        kind, name, _ = self.words.pop()
        if kind != "name" or name in self.known or name == "super" or name[0].isupper():
            raise Unsure("not a name that can be declared")
        self.known[name] = as_parameter
        self.declared.append(name)
        names.append(name)

    def read_method(self):
        """The tree of a method."""
        words = self.words
        kind, selector, _ = words.pop()
        parameters = []
        if kind == "keyword":
            self.declare(parameters, True)
            while words[-1][0] == "keyword":
                selector += words.pop()[1]
                self.declare(parameters, True)
            if len(selector) > LONGEST_SELECTOR or len(parameters) > MOST_PARAMETERS:
                raise Unsure("too long a pattern")
        elif kind == "op":
            self.declare(parameters, True)
        elif kind != "name":
            raise Unsure("no pattern")
        return self.read_body(selector, tuple(parameters))

    def read_body(self, selector, parameters):
        """The tree of a method, behind its pattern."""
        variables = self.read_variables()
        return ("method", selector, parameters, variables, self.read_statements("end", ""))

    def read_variables(self):
        """Reads the variables, if there are some."""
        words = self.words
        kind, word, _ = words[-1]
        if word != "|" or kind != "sign":
            return ()
        words.pop()
        names = []
        self.declare(names, False)
        while not self.at_sign("|"):
            self.declare(names, False)
        words.pop()
        return tuple(names)

    def read_statements(self, closer, value):
        """Reads statements, and what closes them."""
        words = self.words
        trees = []
        kind, word, _ = words[-1]
        while kind != closer or word != value:
            returns = kind == "sign" and word == "^"
            if returns:
                words.pop()
                trees.append(("return", self.read_expression()))
            else:
                trees.append(self.read_expression())
            kind, word, _ = words[-1]
            if kind == "sign" and word == ".":
                words.pop()
                kind, word, _ = words[-1]
            elif kind != closer or word != value:
                raise Unsure("no dot behind a statement")
            if returns and (kind != closer or word != value):
                raise Unsure("a statement behind a return")
        words.pop()
        return tuple(trees)

    def read_expression(self):
        """Reads an expression."""
        words = self.words
        kind, word, _ = words[-1]
        if kind == "name":
            words.pop()
            follows, sign, _ = words[-1]
            if follows == "sign" and sign == ":=":
                words.pop()
                return self.set_name(word)
            tree = ("var", word)
            if word not in self.known:
                if word == "super":
                    return self.read_super_expression()
                self.free[word] = True
        else:
            tree = self.read_primary()
            follows, sign, _ = words[-1]
        if follows == "end" or (follows == "sign" and sign != ";"):
            return tree
        return self.read_messages(tree)

    def set_name(self, name):
        """Reads what a name is set to."""
        if name not in self.known and name != "super" and not name[0].isupper():
            self.free[name] = True
        elif self.known.get(name, True):
            raise Unsure("a name that cannot be set")
        self.enter()
        tree = ("set", name, self.read_expression())
        self.nested -= 1
        return tree

    def enter(self):
        """One bracket or set more."""
        self.nested += 1
        if self.nested > MOST_NESTED:
            raise Unsure("too deep")

    def read_messages(self, tree):
        """Reads one or more messages to a tree, and perhaps a cascade of them."""
        words = self.words
        kind = words[-1][0]
        if kind == "sign":
            raise Unsure("no message ahead of a cascade")
        while kind == "name":
            tree = ("send", tree, words.pop()[1], ())
            kind = words[-1][0]
        while kind == "op":
            operator = words.pop()[1]
            tree = ("send", tree, operator, (self.read_unary(),))
            kind = words[-1][0]
        if kind == "keyword":
            selector, arguments = self.read_keywords()
            tree = ("send", tree, selector, arguments)
            kind = words[-1][0]
        if kind == "sign" and words[-1][1] == ";":
            return self.read_cascade(tree)
        return tree

    def read_keywords(self):
        """Reads keywords with their arguments."""
        words = self.words
        selector = ""
        arguments = []
        while words[-1][0] == "keyword":
            selector += words.pop()[1]
            arguments.append(self.read_operand())
        if len(selector) > LONGEST_SELECTOR:
            raise Unsure("too long a selector")
        return (selector, tuple(arguments))

    def read_cascade(self, tree):
        """Reads the messages behind the first one, which is this tree."""
        words = self.words
        messages = [tree[2:]]
        while self.at_sign(";"):
            words.pop()
            kind, word, _ = words[-1]
            if kind == "name":
                words.pop()
                messages.append((word, ()))
            elif kind == "op":
                words.pop()
                messages.append((word, (self.read_unary(),)))
            elif kind == "keyword":
                messages.append(self.read_keywords())
            else:
                raise Unsure("no message in a cascade")
        return ("cascade", tree[1], tuple(messages))

    def read_super_expression(self):
        """Reads the message to super, and those behind it."""
        words = self.words
        kind = words[-1][0]
        if kind == "keyword":
            selector, arguments = self.read_keywords()
            tree = ("super", selector, arguments)
        else:
            tree = self.read_super_operand()
        if words[-1][0] in ("name", "op", "keyword"):
            return self.read_messages(tree)
        if self.at_sign(";"):
            raise Unsure("a cascade to super")
        return tree

    def read_super_operand(self):
        """Reads a message to super that is a name or an operator."""
        kind, word, _ = self.words.pop()
        if kind == "name":
            return ("super", word, ())
        if kind == "op":
            return ("super", word, (self.read_unary(),))
        raise Unsure("no message to super")

    def read_operand(self):
        """Reads the argument of a keyword."""
        words = self.words
        if words[-1][:2] == ("name", "super"):
            words.pop()
            tree = self.read_super_operand()
            while words[-1][0] == "name":
                tree = ("send", tree, words.pop()[1], ())
        else:
            tree = self.read_unary()
        while words[-1][0] == "op":
            operator = words.pop()[1]
            tree = ("send", tree, operator, (self.read_unary(),))
        return tree

    def read_unary(self):
        """Reads a primary with unary messages."""
        words = self.words
        tree = self.read_primary()
        while words[-1][0] == "name":
            tree = ("send", tree, words.pop()[1], ())
        return tree

    def read_primary(self):
        """Reads a primary; super with a unary message, too."""
        kind, word, _ = self.words.pop()
        if kind == "name":
            if word not in self.known:
                if word == "super":
                    return self.read_super_unary()
                self.free[word] = True
            return ("var", word)
        if kind == "int":
            return ("int", word)
        if kind == "str" or kind == "sym":
            tree = (kind, word)
            if kind == "str" or tree not in self.literals:
                self.literals.append(tree)
            return tree
        if kind != "sign":
            raise Unsure("no primary")
        return self.read_bracket(word)

    def read_super_unary(self):
        """Reads a message to super that is a name."""
        kind, word, _ = self.words.pop()
        if kind != "name":
            raise Unsure("no message to super")
        return ("super", word, ())

    def read_bracket(self, sign):
        """Reads what begins with a sign."""
        if sign == "#(":
            tree = self.read_items()
            self.literals.append(tree)
            return tree
        self.enter()
        if sign == "(":
            tree = self.read_expression()
            if self.words.pop()[:2] != ("sign", ")"):
                raise Unsure("not closed")
        elif sign == "[":
            tree = self.read_block()
        else:
            raise Unsure("no primary")
        self.nested -= 1
        return tree

    def read_block(self):
        """Reads a block, behind its `[`."""
        words = self.words
        parameters = []
        while self.at_sign(":"):
            words.pop()
            self.declare(parameters, True)
        if len(parameters) > MOST_PARAMETERS:
            raise Unsure("too many parameters")
        if parameters and not self.at_sign("]"):
            if not self.at_sign("|"):
                raise Unsure("no bar behind the parameters")
            words.pop()
            if self.at_sign("]"):
                raise Unsure("nothing behind the bar")
        variables = self.read_variables()
        self.keeps = self.keeps or variables != ()
        trees = self.read_statements("sign", "]")
        for name in parameters:
            del self.known[name]
        for name in variables:
            del self.known[name]
        return ("block", tuple(parameters), variables, trees)

    def at_sign(self, sign):
        """Whether the next word is this sign."""
        kind, word, _ = self.words[-1]
        return word == sign and kind == "sign"

    def read_items(self):
        """Reads an array, behind its `#(`."""
        words = self.words
        rows = []
        items = []
        while True:
            kind, word, place = words.pop()
            if kind == "sign":
                if word == ")":
                    tree = ("arr", tuple(items))
                    if not rows:
                        return tree
                    items = rows.pop()
                    items.append(tree)
                elif word == "(" or word == "#(":
                    rows.append(items)
                    items = []
                else:
                    raise Unsure("no item")
            elif kind == "int" or kind == "str":
                items.append((kind, word))
            elif kind == "end":
                raise Unsure("not closed")
            elif kind == "keyword":
                items.append(("sym", self.joined(word, place)))
            else:
                items.append(("var" if kind == "name" and word in SPOKEN_WORDS else "sym", word))

    def joined(self, text, place):
        """The keywords that stand directly behind one another."""
        words = self.words
        while words[-1][0] == "keyword" and words[-1][2] == place + len(text):
            text += words.pop()[1]
        return text
