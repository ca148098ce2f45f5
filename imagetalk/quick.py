"""Words to trees by recursion, where brackets do not lie too deep: much faster than `reader`, which takes all others.

What cannot be read so, for whatever reason, raises Unsure.
"""

from imagetalk.lines import CASCADED, SUPER, sent
from imagetalk.names import LONGEST_SELECTOR, MOST_PARAMETERS, SPOKEN_WORDS
from imagetalk.treeparts import DEEPEST

# How many brackets and sets are read within one another.
MOST_NESTED = 30

# The names that are never free; as if they were parameters, since they cannot be set.
KNOWN = {"self": True, "nil": True, "true": True, "false": True}

END = ("end", "", 0)


class Unsure(Exception):
    """The words are left to the reader that tells what bars them."""


class Quick:
    """The words of a source that are left, the last one first, and what is known of those that were read.

    longest tells how many words the longest one of the statements has that are in no block, if there are many words.
    All else is as in a Parsed, in the place of which it stands when all is read.
    """

    def __init__(self, words):
        self.words = [END, *words[::-1]]
        self.known = dict(KNOWN)
        self.nested = 0
        self.longest = 0
        self.tree = None
        self.free = {}
        self.declared = []
        self.literals = []
        self.keeps = False
        self.shallow = False
        self.text = None

    def declare(self, names, as_parameter):
        """Reads a parameter or a variable."""
        kind, name, _ = self.words.pop()
        if kind != "name" or name in self.known or name == "super" or name[0].isupper():
            raise Unsure("not a name that can be declared")
        self.known[name] = as_parameter
        self.declared.append(name)
        names.append(name)

    def read_method(self):
        """The tree of a method."""
        words = self.words
        kind, selector, _ = words.pop()
        if kind == "name":
            return self.read_body(selector, ())
        parameters = []
        if kind == "keyword":
            self.declare(parameters, True)
            while words[-1][0] == "keyword":
                selector += words.pop()[1]
                self.declare(parameters, True)
            if len(selector) > LONGEST_SELECTOR or len(parameters) > MOST_PARAMETERS:
                raise Unsure("too long a pattern")
        elif kind == "op":
            self.declare(parameters, True)
        else:
            raise Unsure("no pattern")
        return self.read_body(selector, tuple(parameters))

    def read_body(self, selector, parameters):
        """The tree of a method, behind its pattern."""
        variables = self.read_variables() if self.words[-1][1] == "|" else ()
        return ("method", selector, parameters, variables, self.read_statements("end", ""))

    def read_variables(self):
        """Reads the variables, if this is no string but the first bar of some."""
        words = self.words
        if not self.at_sign("|"):
            return ()
        words.pop()
        names = []
        self.declare(names, False)
        while not self.at_sign("|"):
            self.declare(names, False)
        words.pop()
        return tuple(names)

    def read_statements(self, closer, value):
        """Reads statements, and what closes them."""
        words = self.words
        trees = []
        watched = self.nested == 0 and len(words) >= DEEPEST
        kind, word, _ = words.pop()
        while kind != closer or word != value:
            many = len(words) + 1
            returns = word == "^" and kind == "sign"
            if returns:
                kind, word, _ = words.pop()
                trees.append(("return", self.read_expression(kind, word)))
            else:
                trees.append(self.read_expression(kind, word))
            if watched:
                self.longest = max(self.longest, many - len(words))
            kind, word, _ = words.pop()
            if word == "." and kind == "sign":
                kind, word, _ = words.pop()
            elif kind != closer or word != value:
                raise Unsure("no dot behind a statement")
            if returns and (kind != closer or word != value):
                raise Unsure("a statement behind a return")
        return tuple(trees)

    def read_expression(self, kind, word):
        """Reads an expression that begins with this word."""
        words = self.words
        if kind == "name":
            follows, sign, _ = words[-1]
            if sign == ":=" and follows == "sign":
                words.pop()
                return self.set_name(word)
            if word == "super":
                tree = self.read_super(("op", "keyword"))
                follows, sign, _ = words[-1]
            else:
                if word not in self.known:
                    self.free[word] = True
                tree = ("var", word)
        else:
            tree = ("int", word) if kind == "int" else self.read_other(kind, word)
            follows, sign, _ = words[-1]
        if follows == "sign":
            if sign == ";":
                raise Unsure("no message ahead of a cascade")
            return tree
        if follows != "end":
            tree = self.read_messages(tree)
            if words[-1][1] == ";" and words[-1][0] == "sign":
                return self.read_cascade(tree)
        return tree

    def set_name(self, name):
        """Reads what a name is set to."""
        if name not in self.known and name != "super" and not name[0].isupper():
            self.free[name] = True
        elif self.known.get(name, True):
            raise Unsure("a name that cannot be set")
        self.enter()
        kind, word, _ = self.words.pop()
        tree = ("set", name, self.read_expression(kind, word))
        self.nested -= 1
        return tree

    def enter(self):
        """One bracket or set more."""
        self.nested += 1
        if self.nested > MOST_NESTED:
            raise Unsure("too deep")

    def read_messages(self, tree):
        """Reads the messages to a tree, of which there is one at least unless the tree is to have a cascade's."""
        words = self.words
        kind, word, _ = words[-1]
        while kind == "name":
            tree = ("send", tree, word, ())
            words.pop()
            kind, word, _ = words[-1]
        if kind == "op":
            tree = self.read_operators(tree)
            kind, word, _ = words[-1]
        if kind != "keyword":
            return tree
        selector = ""
        arguments = []
        while kind == "keyword":
            words.pop()
            selector += word
            argument = self.read_operand(("op",))
            kind, word, _ = words[-1]
            if kind == "op":
                argument = self.read_operators(argument)
                kind, word, _ = words[-1]
            arguments.append(argument)
        if len(selector) > LONGEST_SELECTOR:
            raise Unsure("too long a selector")
        return sent(tree, selector, tuple(arguments))

    def read_operators(self, tree):
        """Reads operators with their arguments."""
        words = self.words
        kind, word, _ = words[-1]
        while kind == "op":
            words.pop()
            tree = sent(tree, word, (self.read_operand(()),))
            kind, word, _ = words[-1]
        return tree

    def read_operand(self, follows_super):
        """Reads a primary with unary messages, or super ahead of a message of one of these kinds."""
        words = self.words
        kind, word, _ = words.pop()
        if kind != "name":
            tree = ("int", word) if kind == "int" else self.read_other(kind, word)
        elif word == "super":
            tree = self.read_super(follows_super)
        else:
            if word not in self.known:
                self.free[word] = True
            tree = ("var", word)
        kind, word, _ = words[-1]
        while kind == "name":
            tree = ("send", tree, word, ())
            words.pop()
            kind, word, _ = words[-1]
        return tree

    def read_super(self, follows):
        """A unary message to super, or super itself ahead of a message of one of these kinds."""
        kind, word, _ = self.words[-1]
        if kind == "name":
            self.words.pop()
            return ("super", word, ())
        if kind not in follows:
            raise Unsure("no message to super")
        return SUPER

    def read_cascade(self, tree):
        """Reads the messages behind the first one, which is this tree."""
        if tree[0] != "send":
            raise Unsure("a cascade to super")
        messages = [tree[2:]]
        while self.at_sign(";"):
            self.words.pop()
            message = self.read_messages(CASCADED)
            if message == CASCADED or message[1] != CASCADED:
                raise Unsure("no message in a cascade, or more than one")
            messages.append(message[2:])
        return ("cascade", tree[1], tuple(messages))

    def read_other(self, kind, word):
        """The primary that begins with a word that is no name and no integer."""
        if kind == "str" or kind == "sym":
            tree = (kind, word)
            if kind == "str" or tree not in self.literals:
                self.literals.append(tree)
            return tree
        if kind != "sign":
            raise Unsure("no primary")
        return self.read_bracket(word)

    def read_bracket(self, sign):
        """Reads what begins with a sign."""
        if sign == "#(":
            tree = self.read_items()
            self.literals.append(tree)
            return tree
        self.enter()
        if sign == "(":
            kind, word, _ = self.words.pop()
            tree = self.read_expression(kind, word)
            if self.words.pop()[:2] != ("sign", ")"):
                raise Unsure("not closed")
        elif sign == "[":
            tree = self.read_block()
        else:
            raise Unsure("no primary")
        self.nested -= 1
        return tree

    def read_block(self):
        """Reads a block, behind its `[`."""
        words = self.words
        parameters = []
        while self.at_sign(":"):
            words.pop()
            self.declare(parameters, True)
        if len(parameters) > MOST_PARAMETERS:
            raise Unsure("too many parameters")
        if parameters and not self.at_sign("]"):
            if not self.at_sign("|"):
                raise Unsure("no bar behind the parameters")
            words.pop()
            if self.at_sign("]"):
                raise Unsure("nothing behind the bar")
        variables = self.read_variables() if words[-1][1] == "|" else ()
        self.keeps = self.keeps or variables != ()
        trees = self.read_statements("sign", "]")
        for name in parameters:
            del self.known[name]
        for name in variables:
            del self.known[name]
        return ("block", tuple(parameters), variables, trees)

    def at_sign(self, sign):
        """Whether the next word is this sign."""
        kind, word, _ = self.words[-1]
        return word == sign and kind == "sign"

    def read_items(self):
        """Reads an array, behind its `#(`."""
        words = self.words
        rows = []
        items = []
        while True:
            kind, word, place = words.pop()
            if kind == "sign":
                if word == ")":
                    tree = ("arr", tuple(items))
                    if not rows:
                        return tree
                    items = rows.pop()
                    items.append(tree)
                elif word == "(" or word == "#(":
                    rows.append(items)
                    items = []
                else:
                    raise Unsure("no item")
            elif kind == "int" or kind == "str":
                items.append((kind, word))
            elif kind == "end":
                raise Unsure("not closed")
            elif kind == "keyword":
                items.append(("sym", self.joined(word, place)))
            else:
                items.append(("var" if kind == "name" and word in SPOKEN_WORDS else "sym", word))

    def joined(self, text, place):
        """The keywords that stand directly behind one another."""
        words = self.words
        while words[-1][0] == "keyword" and words[-1][2] == place + len(text):
            text += words.pop()[1]
        return text
