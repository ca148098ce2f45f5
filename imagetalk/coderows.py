"""The rows of the text of a made method, written and read."""

from imagetalk.codes import DEEPEST_BODIES, head_fits, is_code, is_literal, is_selector
from imagetalk.errors import BadSource, BadText
from imagetalk.reader import parsed_array
from imagetalk.writer import literal_text

# Longer runs of digits cannot have been written.
MOST_DIGITS_READ = 4000


def literal_row(tree):
    """The row of a literal."""
    return "= " + literal_text(tree).replace("\\", "\\\\").replace("\n", "\\n")


def code_row(place, code):
    """The row of the code at a place."""
    words = [str(place)]
    for part in code:
        if isinstance(part, bool):
            words.append("yes" if part else "no")
        else:
            words.append(str(part))
    return " ".join(words)


def body_rows(body):
    """The rows of a body and of those of its blocks."""
    parameters, variables, codes, blocks = body
    rows = [f"body {parameters} {variables} {len(codes)} {len(blocks)}"]
    for place, code in enumerate(codes):
        rows.append(code_row(place, code))
    for block in blocks:
        rows.extend(body_rows(block))
    return rows


def number_in(word):
    """The integer that a word is, None if it is none."""
    if not word.removeprefix("-").isdigit() or len(word) > MOST_DIGITS_READ:
        return None
    number = int(word)
    return number if str(number) == word else None


def literal_in(row):
    """The literal of which this is the row, None if it is of none."""
    if not row.startswith("= "):
        return None
    text = "\\".join([part.replace("\\n", "\n") for part in row[2:].split("\\\\")])
    tree = None
    if text.startswith("'"):
        tree = ("str", text[1:-1].replace("''", "'"))
    elif text.startswith("#'"):
        tree = ("sym", text[2:-1].replace("''", "'"))
    elif text.startswith("#("):
        tree = array_in(text)
    elif text.startswith("#"):
        tree = ("sym", text[1:])
    return tree if is_literal(tree) and literal_row(tree) == row else None


def array_in(text):
    """The array of which this is the text, None if it is of none."""
    try:
        return parsed_array(text)
    except BadSource:
        return None


def code_in(row, place):
    """The code at this place of which this is the row, None if it is of none."""
    words = row.split(" ")
    parts = words[1:2]
    for word in words[2:]:
        if parts == ["test"] and word in ("yes", "no"):
            parts.append(word == "yes")
        else:
            number = number_in(word)
            parts.append(word if number is None else number)
    code = tuple(parts)
    return code if is_code(code) and code_row(place, code) == row else None


class RowReader:
    """The rows of a text, and how many of them have been read."""

    def __init__(self, rows):
        self.rows = rows
        self.at = 0

    def next_row(self):
        """The row that comes next."""
        if self.at >= len(self.rows):
            raise BadText(self.at)
        self.at += 1
        return self.rows[self.at - 1]

    def bar(self):
        """The row read last is not as it has to be."""
        raise BadText(self.at - 1)

    def read_method(self):
        """Reads all rows."""
        words = self.next_row().split(" ")
        if len(words) != 3 or words[0] != "method" or not is_selector(words[1]):
            self.bar()
        many = number_in(words[2])
        if many is None or many < 0:
            self.bar()
        literals = []
        while len(literals) < many:
            literals.append(self.read_literal())
        body = self.read_body(DEEPEST_BODIES)
        if self.at < len(self.rows):
            raise BadText(self.at)
        return (words[1], tuple(literals), body)

    def read_literal(self):
        """Reads the row of a literal."""
        tree = literal_in(self.next_row())
        if tree is None:
            self.bar()
        return tree

    def read_body(self, room):
        """Reads the rows of a body; room tells how many bodies may lie within one another."""
        words = self.next_row().split(" ")
        numbers = [number_in(word) for word in words[1:]]
        if words[0] != "body" or len(numbers) != 4 or None in numbers or not head_fits(*numbers):
            self.bar()
        parameters, variables, many, inner = numbers
        if inner > 0 and room == 1:
            self.bar()
        codes = [self.read_code(place) for place in range(many)]
        blocks = [self.read_body(room - 1) for _ in range(inner)]
        return (parameters, variables, tuple(codes), tuple(blocks))

    def read_code(self, place):
        """Reads the row of the code at this place."""
        code = code_in(self.next_row(), place)
        if code is None:
            self.bar()
        return code
