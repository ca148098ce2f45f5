"""Sources to trees, however deep: with a stack of its own in the place of recursion."""

from imagetalk.errors import BadSource
from imagetalk.lines import Line, SUPER
from imagetalk.names import FIVE_WORDS, LONGEST_SELECTOR, MOST_PARAMETERS, SPOKEN_WORDS
from imagetalk.words import parted

BODY_SELECTOR = "doIt"

# What can come next in a body.
STATEMENT = 0
STATEMENT_OR_END = 1
DOT_OR_END = 2
END = 3


def parsed_array(text):
    """The array of which this is the text, of any length, that begins with its `#(`."""
    reader = Reader(parted(text), len(text))
    reader.at = 1
    return reader.read_items()


class Body:
    """The statements of a method or a block while they are read."""

    def __init__(self, is_block):
        self.is_block = is_block
        self.parameters = []
        self.declared = []
        self.statements = []
        self.returns = False
        self.awaits = STATEMENT_OR_END

    def put(self, tree):
        """A statement is complete."""
        self.statements.append(("return", tree) if self.returns else tree)
        self.awaits = DOT_OR_END

    def put_dot(self):
        """A dot has been read: behind a return nothing comes any more."""
        self.awaits = END if self.returns else STATEMENT_OR_END


class Reader:
    """The words of a source, and what has been read of them."""

    def __init__(self, words, length):
        self.words = [*words, ("end", "", length)]
        self.at = 0
        self.known = {}
        self.nested = []

    def bar(self):
        """The word cannot stand here."""
        raise BadSource(self.words[self.at][2])

    def is_sign(self, sign):
        """Whether the word is this sign."""
        return self.words[self.at][0] == "sign" and self.words[self.at][1] == sign

    def pass_sign(self, sign):
        """Goes behind this sign, if it stands here."""
        found = self.is_sign(sign)
        if found:
            self.at += 1
        return found

    def declare(self, names, as_parameter):
        """Reads a parameter or a variable."""
        kind, name, _ = self.words[self.at]
        if kind != "name" or name in FIVE_WORDS or name[0].isupper() or name in self.known:
            self.bar()
        if as_parameter and len(names) >= MOST_PARAMETERS:
            self.bar()
        self.known[name] = as_parameter
        names.append(name)
        self.at += 1

    def read_pattern(self):
        """Reads a method that begins with its pattern."""
        kind, selector, _ = self.words[self.at]
        parameters = []
        if kind not in ("name", "op", "keyword"):
            self.bar()
        if kind == "keyword":
            selector = self.read_keywords(parameters)
        else:
            self.at += 1
            if kind == "op":
                self.declare(parameters, True)
        return self.read_method(selector, parameters)

    def read_keywords(self, parameters):
        """Reads the pattern of a method with keywords."""
        selector = ""
        while self.words[self.at][0] == "keyword":
            selector = self.longer_selector(selector)
            self.at += 1
            self.declare(parameters, True)
        return selector

    def longer_selector(self, selector):
        """The selector with the keyword that stands here."""
        longer = selector + self.words[self.at][1]
        if len(longer) > LONGEST_SELECTOR:
            self.bar()
        return longer

    def read_method(self, selector, parameters):
        """Reads what stands behind the pattern."""
        body = Body(False)
        body.parameters = parameters
        self.read_variables(body)
        self.nested = [body]
        while self.nested:
            frame = self.nested[-1]
            if isinstance(frame, Line):
                self.go_on_line(frame)
            else:
                self.go_on_body(frame)
        return ("method", selector, tuple(body.parameters), tuple(body.declared), tuple(body.statements))

    def read_variables(self, body):
        """Reads the variables, if there are some."""
        if self.pass_sign("|"):
            self.declare(body.declared, False)
            while not self.pass_sign("|"):
                self.declare(body.declared, False)

    def go_on_body(self, body):
        """Reads the next sign of a body, or begins a statement."""
        at_end = self.is_sign("]") if body.is_block else self.words[self.at][0] == "end"
        if at_end and body.awaits != STATEMENT:
            self.end_body(body)
        elif body.awaits in (STATEMENT, STATEMENT_OR_END):
            body.returns = self.pass_sign("^")
            self.nested.append(Line(False))
        elif body.awaits == DOT_OR_END and self.pass_sign("."):
            body.put_dot()
        else:
            self.bar()

    def begin_block(self):
        """Reads the beginning of a block, behind its `[`."""
        body = Body(True)
        while self.pass_sign(":"):
            self.declare(body.parameters, True)
        if body.parameters and not self.is_sign("]"):
            if not self.pass_sign("|"):
                self.bar()
            if not self.is_sign("|"):
                body.awaits = STATEMENT
        self.read_variables(body)
        self.nested.append(body)

    def end_body(self, body):
        """A method or a block is complete."""
        self.nested.pop()
        if body.is_block:
            self.at += 1
            for name in (*body.parameters, *body.declared):
                del self.known[name]
            tree = ("block", tuple(body.parameters), tuple(body.declared), tuple(body.statements))
            self.nested[-1].take(tree)

    def go_on_line(self, line):
        """Reads the next word or words of an expression, or ends it."""
        kind, word, _ = self.words[self.at]
        if line.operand is None:
            self.read_primary(line)
        elif line.message_fits(kind):
            self.read_message(line, kind, word)
        elif line.wants_message():
            self.bar()
        elif self.is_sign(";") and line.cascade_fits():
            self.at += 1
            line.put_cascade()
        else:
            self.end_line(line)

    def read_message(self, line, kind, word):
        """Reads a name, an operator or a keyword of a message."""
        if kind == "name":
            line.put_name(word)
        elif kind == "op":
            line.put_operator(word)
        else:
            line.put_keyword(self.longer_selector(line.selector))
        self.at += 1

    def end_line(self, line):
        """An expression is complete: the word is none of it."""
        self.nested.pop()
        below = self.nested[-1]
        if not line.in_paren:
            below.put(line.value())
        elif self.pass_sign(")"):
            below.take(line.value())
        else:
            self.bar()

    def read_primary(self, line):
        """Reads a primary, or begins a block or an expression in parentheses."""
        kind, word, _ = self.words[self.at]
        if kind == "name":
            self.read_name(line)
        elif kind in ("int", "str", "sym"):
            self.at += 1
            line.take((kind, word))
        elif self.pass_sign("#("):
            line.take(self.read_items())
        elif self.pass_sign("("):
            self.nested.append(Line(True))
        elif self.pass_sign("["):
            self.begin_block()
        else:
            self.bar()

    def read_name(self, line):
        """Reads a name that is set, super, or another name."""
        name = self.words[self.at][1]
        kind, follows, _ = self.words[self.at + 1]
        if line.is_fresh() and kind == "sign" and follows == ":=":
            if name in FIVE_WORDS or name[0].isupper() or self.known.get(name, False):
                self.bar()
            line.names.append(name)
            self.at += 2
            return
        if name == "super" and not line.super_fits(kind):
            self.bar()
        line.take(SUPER if name == "super" else ("var", name))
        self.at += 1

    def read_items(self):
        """Reads an array, behind its `#(`."""
        rows = [[]]
        while True:
            if self.pass_sign(")"):
                tree = ("arr", tuple(rows.pop()))
                if not rows:
                    return tree
                rows[-1].append(tree)
            elif self.pass_sign("(") or self.pass_sign("#("):
                rows.append([])
            else:
                rows[-1].append(self.read_item())

    def read_item(self):
        """Reads an item of an array that is no array."""
        kind, word, place = self.words[self.at]
        if kind not in ("int", "str", "sym", "name", "op", "keyword"):
            self.bar()
        self.at += 1
        if kind in ("int", "str"):
            return (kind, word)
        if kind == "name" and word in SPOKEN_WORDS:
            return ("var", word)
        if kind == "keyword":
            word = self.joined_keywords(word, place)
        return ("sym", word)

    def joined_keywords(self, text, place):
        """The keywords that stand directly behind one another."""
        while self.words[self.at][0] == "keyword" and self.words[self.at][2] == place + len(text):
            text += self.words[self.at][1]
            self.at += 1
        return text
