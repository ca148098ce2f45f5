"""Any object to a Book, if it is a program."""

from imagetalk.book import CLASS_WORD, Book
from imagetalk.errors import BadProgram, BadSource
from imagetalk.kernel import IN_PLACE, PARENTS
from imagetalk.manywords import words_of_all
from imagetalk.names import are_fields, is_class_word
from imagetalk.parsing import parsed_quickly, parsed_source

MOST_CLASSES = 12
MOST_METHODS = 20
DEFINITION_PARTS = 6


def read_program(thing):
    """The Book of a program."""
    judge = Judge(None, {}, False)
    judge.read(thing)
    return judge.book


def read_beside(thing, book):
    """The Book of a program that has perhaps the sources of another one, too."""
    judge = Judge(book, book.sources, False)
    judge.read(thing)
    return judge.book


def read_changed(thing, book):
    """The Book of a program that another one became; sources that are too deep are taken as well."""
    judge = Judge(book, book.sources, True)
    judge.read(thing)
    return judge.book


def read_changed_by(thing, book, key, parsed):
    """As read_changed, of a program that has one source more, of which this has been read."""
    sources = {known: book.sources[known] for known in book.sources}
    sources[key] = parsed
    judge = Judge(book, sources, True)
    judge.read(thing)
    return judge.book


def is_definition(thing):
    """Whether it is a tuple of six with a name of a class first."""
    return isinstance(thing, tuple) and len(thing) == DEFINITION_PARTS and is_class_word(thing[0])


def are_sources(thing):
    """Whether it is a tuple of no more sources than a class can have, whatever stands in it."""
    return isinstance(thing, tuple) and len(thing) <= MOST_METHODS


class Judge:
    """What has been read of an object that should be a program.

    before is the Book of another program that is perhaps much the same, or None, sources what is known of sources.
    """

    def __init__(self, before, sources, any_depth):
        self.before = before
        self.sources = sources
        self.any_depth = any_depth
        self.book = Book()
        self.defined = {}
        self.names_alike = False

    def read(self, thing):
        """Reads the whole, as far as it is right."""
        if not isinstance(thing, tuple) or len(thing) != 2:
            raise BadProgram(())
        classes, main = thing
        if not isinstance(classes, tuple) or len(classes) > MOST_CLASSES:
            raise BadProgram(())
        formed = [is_definition(definition) for definition in classes]
        definitions = [definition for definition, has_form in zip(classes, formed) if has_form]
        self.defined = {definition[0]: True for definition in definitions}
        if self.before is not None:
            self.names_alike = {name: True for name in self.before.own_names} == self.defined
        self.read_sources(definitions, main)
        book = self.book
        for index, definition in enumerate(classes):
            if not formed[index] or not self.definition_fits(definition):
                raise BadProgram((index,))
            name, parent, fields, class_fields, methods, class_methods = definition
            book.put_class(name, parent, fields, class_fields)
            self.read_methods(index, 0, name, methods)
            self.read_methods(index, 1, name + CLASS_WORD, class_methods)
        book.main = book.sources[(main,)] if isinstance(main, str) else None
        if book.main is None or not self.method_fits(book.main, ()):
            raise BadProgram(("main",))

    def read_sources(self, definitions, main):
        """Reads all sources; that of main is kept apart from those of methods, by itself in a tuple."""
        wanted = [] if not isinstance(main, str) else [(main,)]
        for definition in definitions:
            for sources in definition[4:]:
                if are_sources(sources):
                    wanted.extend([source for source in sources if isinstance(source, str)])
        known = self.sources
        found = {key: known[key] for key in wanted if key in known}
        missing = list({key: True for key in wanted if key not in known})
        if missing:
            for key, parsed in zip(missing, parsed_all(missing)):
                found[key] = parsed
        book = self.book
        book.sources = found

    def definition_fits(self, thing):
        """Whether what has the form of a definition is one, apart from what its methods are."""
        name, parent, fields, class_fields, methods, class_methods = thing
        if name in self.book.parents or not self.can_be_parent(parent):
            return False
        if not self.fields_fit(fields, parent) or not self.fields_fit(class_fields, parent + CLASS_WORD):
            return False
        return are_sources(methods) and are_sources(class_methods)

    def can_be_parent(self, thing):
        """Whether it names a class that may be a parent."""
        return thing in PARENTS or thing in self.book.own_names

    def fields_fit(self, thing, parent):
        """Whether it is a tuple of fields that no class above has."""
        if not are_fields(thing):
            return False
        above = self.book.fields_of_class(parent)
        return not any([field in above for field in thing])

    def read_methods(self, index, side, owner, sources):
        """Takes the methods of a class or of its NAME class, if they fit."""
        book = self.book
        before = self.before
        fields = book.fields_of_class(owner)
        book.texts[owner] = sources
        if self.names_alike and before.texts[owner] == sources and before.fields_of_class(owner) == fields:
            book.methods[owner] = before.methods[owner]
            return
        methods = {}
        for number, source in enumerate(sources):
            parsed = book.sources[source] if isinstance(source, str) else None
            if parsed is None or not self.method_fits(parsed, fields):
                raise BadProgram((index, side, number))
            selector = parsed.tree[1]
            if selector in methods or selector in IN_PLACE:
                raise BadProgram((index, side, number))
            methods[selector] = parsed
        book.methods[owner] = methods

    def method_fits(self, parsed, fields):
        """Whether a method, not too deep, reads and sets but these fields and classes, and declares no field."""
        if not parsed.shallow and not self.any_depth:
            return False
        for name in parsed.free:
            if name not in fields and name not in self.defined and name not in self.book.parents:
                return False
        for name in parsed.declared:
            if name in fields:
                return False
        return True


def parsed_all(keys):
    """What is read of each of these sources of methods, or of main in a tuple, None for what is none."""
    sources = [key if isinstance(key, str) else key[0] for key in keys]
    rows = words_of_all(sources) if len(sources) > 1 else None
    found = []
    for number, source in enumerate(sources):
        with_pattern = isinstance(keys[number], str)
        words = None if rows is None else rows[number]
        parsed = None if words is None else parsed_quickly(source, words, with_pattern)
        found.append(parsed_or_none(source, with_pattern) if parsed is None else parsed)
    return found


def parsed_or_none(source, with_pattern):
    """What is read of a source, None if it is none."""
    try:
        return parsed_source(source, with_pattern)
    except BadSource:
        return None
