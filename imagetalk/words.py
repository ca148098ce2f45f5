"""Sources and their words."""

from imagetalk.errors import BadSource
from imagetalk.names import LONGEST_NAME, OPERATORS, is_text
from imagetalk.plainwords import MOST_DIGITS, VALUE_KINDS, plain_words

LONGEST_SOURCE = 2000
SIGNS = (":=", "#(", "(", ")", "[", "]", ":", "|", "^", ".", ";")


def words_of(source):
    """The words of a source, in order, each as (kind, value, place)."""
    if not is_text(source) or len(source) > LONGEST_SOURCE:
        raise BadSource(-1)
    words = plain_words(source)
    return parted(source) if words is None else words


def parted(source):
    """The words of a text that may be longer than a source."""
    words = []
    parens = []
    place = past_gap(source, 0)
    while place < len(source):
        kind, value, end = word_at(source, place, minus_binds(words, parens))
        words.append((kind, value, place))
        if kind == "sign":
            note_paren(parens, value)
        place = past_gap(source, end)
    return words


def past_gap(text, place):
    """The place behind the blanks, line feeds and comments that begin here."""
    while place < len(text) and text[place] in " \n\"":
        if text[place] == "\"":
            end = text.find("\"", place + 1)
            if end < 0:
                raise BadSource(place)
            place = end
        place += 1
    return place


def minus_binds(words, parens):
    """Whether a minus that stands here belongs to the digits directly behind it."""
    if "#(" in parens or not words:
        return True
    kind, value, _ = words[-1]
    return kind not in VALUE_KINDS and value not in (")", "]")


def note_paren(parens, sign):
    """Keeps the parentheses that have not been closed."""
    if sign in ("(", "#("):
        parens.append(sign)
    elif sign == ")" and parens:
        parens.pop()


def word_at(text, place, binds):
    """The word that begins here, as (kind, value, end)."""
    first = text[place]
    word = None
    if first.isalpha():
        word = name_at(text, place)
    elif first.isdigit():
        word = integer_at(text, place, place)
    elif first == "'":
        word = string_at(text, place)
    elif first == "#":
        word = symbol_at(text, place)
    elif first == "-" and binds:
        word = integer_at(text, place, place + 1)
    if word is None:
        word = listed_at("op", OPERATORS, text, place)
    if word is None:
        word = listed_at("sign", SIGNS, text, place)
    if word is None:
        raise BadSource(place)
    return word


def name_end(text, place):
    """Where the name that begins here ends, the place itself if none does."""
    end = place
    if end < len(text) and text[end].isalpha():
        while end < len(text) and text[end].isalnum():
            end += 1
    return end if end - place <= LONGEST_NAME else place


def keyword_end(text, place):
    """Where the keyword that begins here ends, the place itself if none does."""
    end = name_end(text, place)
    if end > place and text[end:end + 1] == ":" and text[end + 1:end + 2] != "=":
        return end + 1
    return place


def name_at(text, place):
    """The keyword or name that begins here, None if the run of letters and digits is too long."""
    end = keyword_end(text, place)
    if end > place:
        return ("keyword", text[place:end], end)
    end = name_end(text, place)
    if end > place:
        return ("name", text[place:end], end)
    return None


def integer_at(text, place, digits):
    """The integer that begins at place and has its first digit at digits, None if there is none."""
    end = digits
    while end < len(text) and text[end].isdigit():
        end += 1
    if not 0 < end - digits <= MOST_DIGITS:
        return None
    return ("int", int(text[place:end]), end)


def string_end(text, place):
    """Where the string that begins here ends, 0 if it does not."""
    end = text.find("'", place + 1)
    while end >= 0 and text[end + 1:end + 2] == "'":
        end = text.find("'", end + 2)
    return end + 1


def string_at(text, place):
    """The string that begins here, None if it does not end."""
    end = string_end(text, place)
    if end == 0:
        return None
    return ("str", text[place + 1:end - 1].replace("''", "'"), end)


def symbol_at(text, place):
    """The symbol that begins here, None if there is none."""
    start = place + 1
    if text[start:start + 1] == "'":
        word = string_at(text, start)
        return ("sym", word[1], word[2]) if word is not None else None
    end = start
    while keyword_end(text, end) > end:
        end = keyword_end(text, end)
    if end == start:
        end = name_end(text, start)
    if end > start:
        return ("sym", text[start:end], end)
    word = listed_at("sym", OPERATORS, text, start)
    return word


def listed_at(kind, words, text, place):
    """The longest of these words, of one or two characters, that begins here, None if none does."""
    for width in (2, 1):
        found = text[place:place + width]
        if found in words:
            return (kind, found, place + len(found))
    return None
