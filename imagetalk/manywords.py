"""The words of several sources, found all at once where they are written plainly: with no places, as Quick takes them.

Each source is set apart from the next one by a sign that stands in none of them.
"""

from imagetalk.names import LONGEST_NAME, is_text
from imagetalk.plainwords import ARRAY, MOST_DIGITS, STRING, SYMBOL
from imagetalk.plainwords import is_symbol, put_keywords, set_apart, surely_binds, without_strings
from imagetalk.words import LONGEST_SOURCE

BORDER = "_"
BETWEEN = " _ "

# The chunks that are always the same words.
WORDS = {
    ":=": ("sign", ":=", 0), "(": ("sign", "(", 0), ")": ("sign", ")", 0), "[": ("sign", "[", 0), "]": ("sign", "]", 0),
    ":": ("sign", ":", 0), "|": ("sign", "|", 0), "^": ("sign", "^", 0), ".": ("sign", ".", 0), ";": ("sign", ";", 0),
    "@": ("sign", "#(", 0), "+": ("op", "+", 0), "-": ("op", "-", 0), "*": ("op", "*", 0), "//": ("op", "//", 0),
    "\\\\": ("op", "\\\\", 0), "<": ("op", "<", 0), ">": ("op", ">", 0), "<=": ("op", "<=", 0), ">=": ("op", ">=", 0),
    "=": ("op", "=", 0), "==": ("op", "==", 0), "~=": ("op", "~=", 0), "~~": ("op", "~~", 0), ",": ("op", ",", 0),
}


def words_of_all(sources):
    """The words of each of these sources, None for one that is not surely plain; None if nothing can be told."""
    text = BETWEEN.join(sources)
    if not all([len(source) <= LONGEST_SOURCE for source in sources]) or not is_text(text):
        return None
    if ARRAY in text or "\"" in text or STRING in text or SYMBOL in text:
        return None
    texts = []
    code = without_strings(text, texts) if "'" in text else text
    # A string with a border in it is none: it would end in another source than it begins.
    if code is None or code.count(BORDER) != len(sources) - 1 or any([BORDER in found for found in texts]):
        return None
    return rows_in(set_apart(code).split(), texts)


def rows_in(chunks, texts):
    """The words of each source of which these are the chunks, None for one that is not plain."""
    known = dict(WORDS)
    rows = []
    words = []
    plain = True
    for chunk in chunks:
        word = known.get(chunk)
        if word is not None:
            words.append(word)
        elif chunk == BORDER:
            rows.append(words if plain else None)
            words = []
            plain = True
        else:
            word = single_word(chunk)
            if word is not None:
                known[chunk] = word
                words.append(word)
            elif not put_others(words, chunk, texts):
                plain = False
    return [*rows, words if plain else None]


def single_word(chunk):
    """The word that is all of this, whatever stands around, None if it is none."""
    if chunk.isidentifier():
        return ("name", chunk, 0) if len(chunk) <= LONGEST_NAME else None
    if chunk.startswith("#"):
        return ("sym", chunk[1:], 0) if is_symbol(chunk[1:]) else None
    if chunk.endswith(":"):
        return ("keyword", chunk, 0) if chunk[:-1].isidentifier() and len(chunk) <= LONGEST_NAME + 1 else None
    return ("int", int(chunk), 0) if chunk.isdigit() and len(chunk) <= MOST_DIGITS else None


def put_others(words, chunk, texts):
    """Puts the words of what is no single one, or a string, behind the words; tells whether it is plain."""
    if chunk == STRING or chunk == SYMBOL:
        words.append(("str" if chunk == STRING else "sym", texts.pop(), 0))
        return True
    rest = chunk[1:]
    if chunk.startswith(":") and rest.isidentifier() and len(rest) <= LONGEST_NAME:
        words.append(("sign", ":", 0))
        words.append(("name", rest, 0))
        return True
    if chunk.endswith(":"):
        return put_keywords(words, chunk, 0) > 0
    if chunk.startswith("-") and rest.isdigit() and len(rest) <= MOST_DIGITS and surely_binds(words):
        words.append(("int", int(chunk), 0))
        return True
    return False
