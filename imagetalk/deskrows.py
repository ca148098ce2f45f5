"""The rows that a desk takes, parted."""

from imagetalk.book import CLASS_WORD
from imagetalk.errors import BadCommand
from imagetalk.names import is_method_selector

BARE = ("run", "walk", "shown", "sends", "reached", "lost", "undo", "same")

# Behind the word stands a source, or a name and a source.
WITH_SOURCE = ("main", "do")
WITH_NAME_AND_SOURCE = ("method", "classmethod")
WITH_NAME_AND_SELECTOR = ("drop", "codes", "source", "understands")

# How many parts stand behind the word at least, where any number may follow.
WITH_MORE = {"class": 2, "fields": 1}

# What makes two words one name.
SECOND_WORD = "class"


def read_row(row):
    """The word of a row and the tuple of its parts."""
    if not isinstance(row, str):
        raise BadCommand("not a row")
    word, blank, rest = row.partition(" ")
    parts = None
    if word in BARE:
        parts = () if blank == "" else None
    elif blank != "":
        parts = parts_behind(word, rest)
    if parts is None:
        raise BadCommand("not a row of the forms that there are")
    return (word, parts)


def parts_behind(word, rest):
    """The parts behind a word and a blank, None if they are not as they have to be."""
    if word in WITH_SOURCE:
        return (rest,)
    if word in WITH_NAME_AND_SOURCE:
        name, blank, source = rest.partition(" ")
        return (name, source) if blank != "" and is_part(name) else None
    parts = rest.split(" ")
    if not all([is_part(part) for part in parts]):
        return None
    if word in WITH_MORE:
        return tuple(parts) if len(parts) >= WITH_MORE[word] else None
    if word == "parent":
        return one_name(parts)
    return name_and_selector(parts) if word in WITH_NAME_AND_SELECTOR else None


def is_part(text):
    """Whether a text without blanks can be a part of a row."""
    return text != "" and "\n" not in text


def one_name(parts):
    """The name of a class, as the only part, None if these are none."""
    if len(parts) == 2 and parts[1] == SECOND_WORD:
        return (parts[0] + CLASS_WORD,)
    return (parts[0],) if len(parts) == 1 else None


def name_and_selector(parts):
    """The name of a class and a selector, None if these are none."""
    name = one_name(parts[:-1]) if len(parts) > 1 else None
    if name is None or not is_method_selector(parts[-1]):
        return None
    return (name[0], parts[-1])
