"""Made methods to texts, and texts to made methods."""

from imagetalk.codes import check_made
from imagetalk.coderows import RowReader, body_rows, literal_row
from imagetalk.errors import BadText
from imagetalk.names import is_text

LONGEST_TEXT = 400000


def write_made(made):
    """The text of a made method."""
    check_made(made)
    selector, literals, body = made
    rows = [f"method {selector} {len(literals)}"]
    for tree in literals:
        rows.append(literal_row(tree))
    rows.extend(body_rows(body))
    return "\n".join(rows)


def read_made(text):
    """The made method of a text."""
    if not is_text(text) or len(text) > LONGEST_TEXT:
        raise BadText(-1)
    reader = RowReader(text.split("\n"))
    return reader.read_method()
