"""The words of sources in which they are written plainly, found much faster than sign by sign.

Whatever is not plain, or no word at all, is left to `words`.
"""

from imagetalk.names import LONGEST_NAME

MOST_DIGITS = 60
VALUE_KINDS = ("name", "int", "str", "sym")

# The words that are always the same, each with its kind.
FIXED = {
    ":=": "sign", "(": "sign", ")": "sign", "[": "sign", "]": "sign", ":": "sign", "|": "sign", "^": "sign",
    ".": "sign", ";": "sign", "+": "op", "-": "op", "*": "op", "//": "op", "\\\\": "op", "<": "op", ">": "op",
    "<=": "op", ">=": "op", "=": "op", "==": "op", "~=": "op", "~~": "op", ",": "op",
}

# What stands in the place of `#(`, of strings and of symbols that are strings while words are set apart by blanks.
ARRAY = "@"
STRING = "{"
SYMBOL = "}"


def plain_words(source):
    """The words of a source, as words_of has them, None if it is not surely plain."""
    if ARRAY in source or "_" in source or "\"" in source:
        return None
    if "'" not in source:
        return words_in(source, source, [])
    if STRING in source or SYMBOL in source:
        return None
    texts = []
    code = without_strings(source, texts)
    return None if code is None else words_in(source, code, texts)


def without_strings(source, texts):
    """The source with a sign in the place of each string, whose texts are collected; None if one does not end."""
    pieces = source.split("'")
    if len(pieces) & 1 == 0:
        return None
    code = pieces[0]
    place = 1
    while place < len(pieces):
        text = pieces[place]
        while place + 2 < len(pieces) and pieces[place + 1] == "":
            text += "'" + pieces[place + 2]
            place += 2
        texts.append(text)
        if code.endswith("#"):
            code = code[:-1] + " } " + pieces[place + 1]
        else:
            code += " { " + pieces[place + 1]
        place += 2
    texts.reverse()
    return code


def set_apart(code):
    """The code with blanks around all signs but `:`, and a sign in the place of each `#(`."""
    if "#(" in code:
        code = code.replace("#(", " @ ")
    code = code.replace("(", " ( ").replace(")", " ) ").replace("[", " [ ").replace("]", " ] ").replace(".", " . ")
    return code.replace(";", " ; ").replace("^", " ^ ").replace("|", " | ").replace(":=", " := ")


def words_in(source, code, texts):
    """The words of the code of a source, with the texts of its strings, the last one first; None if it is not plain."""
    words = []
    place = 0
    for chunk in set_apart(code).split():
        kind = FIXED.get(chunk)
        value = chunk
        if kind is None and len(chunk) <= LONGEST_NAME:
            if chunk.isidentifier():
                kind = "name"
            elif chunk.isdigit():
                kind = "int"
                value = int(chunk)
            elif chunk.endswith(":") and chunk[:-1].isidentifier():
                kind = "keyword"
        if kind is not None:
            place = source.find(chunk, place)
            words.append((kind, value, place))
            place += len(chunk)
        else:
            place = put_other(words, chunk, source, place, texts)
            if place < 0:
                return None
    return words


def put_other(words, chunk, source, place, texts):
    """Puts what is none of the words that are found at once behind them; tells where it ends, -1 if not plain."""
    rest = chunk[1:]
    if chunk.startswith(":") and rest.isidentifier():
        place = source.find(chunk, place)
        words.append(("sign", ":", place))
        words.append(("name", rest, place + 1))
        return place + len(chunk) if len(rest) <= LONGEST_NAME else -1
    if chunk == ARRAY:
        place = source.find("#(", place)
        words.append(("sign", "#(", place))
        return place + 2
    if chunk == STRING or chunk == SYMBOL:
        return put_string(words, chunk, source, place, texts) if texts else -1
    place = source.find(chunk, place)
    end = place + len(chunk)
    if chunk.isdigit():
        words.append(("int", int(chunk), place))
        return end if len(chunk) <= MOST_DIGITS else -1
    if chunk.startswith("#") and is_symbol(rest):
        words.append(("sym", rest, place))
        return end
    if chunk.endswith(":"):
        return put_keywords(words, chunk, place)
    if chunk.startswith("-") and rest.isdigit() and len(rest) <= MOST_DIGITS and surely_binds(words):
        words.append(("int", int(chunk), place))
        return end
    return -1


def put_keywords(words, chunk, place):
    """Puts keywords with nothing between behind the words; tells where they end, -1 if they are none."""
    for part in chunk[:-1].split(":"):
        if not part.isidentifier() or len(part) > LONGEST_NAME:
            return -1
        words.append(("keyword", part + ":", place))
        place += len(part) + 1
    return place


def put_string(words, chunk, source, place, texts):
    """Puts a string, or a symbol that is one, behind the words; tells where it ends."""
    text = texts.pop()
    place = source.find("'", place)
    end = place + len(text) + text.count("'") + 2
    words.append(("str", text, place) if chunk == STRING else ("sym", text, place - 1))
    return end


def is_symbol(text):
    """Whether all of this, behind `#`, is a symbol."""
    if text.isidentifier():
        return len(text) <= LONGEST_NAME
    if not text.endswith(":"):
        return FIXED.get(text) == "op"
    return all([part.isidentifier() and len(part) <= LONGEST_NAME for part in text[:-1].split(":")])


def surely_binds(words):
    """Whether a minus belongs to the digits directly behind it whatever stands around."""
    return not words or (words[-1][0] not in VALUE_KINDS and words[-1][1] not in (")", "]"))
