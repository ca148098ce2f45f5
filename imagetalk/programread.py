"""Any object to a Book, if it is a program."""

from imagetalk.book import CLASS_WORD, Book
from imagetalk.errors import BadProgram, BadSource
from imagetalk.kernel import IN_PLACE, PARENTS
from imagetalk.names import are_fields, is_class_word
from imagetalk.parsing import parsed_body, parsed_method

MOST_CLASSES = 12
MOST_METHODS = 20
DEFINITION_PARTS = 6


def read_program(thing):
    """The Book of a program."""
    judge = Judge({}, False)
    judge.read(thing)
    return judge.book


def read_beside(thing, book):
    """The Book of a program that has perhaps the sources of another one, too."""
    judge = Judge(book.sources, False)
    judge.read(thing)
    return judge.book


def read_changed(thing, book):
    """The Book of a program that another one became; sources that are too deep are taken as well."""
    judge = Judge(book.sources, True)
    judge.read(thing)
    return judge.book


def is_definition(thing):
    """Whether it is a tuple of six with a name of a class first."""
    return isinstance(thing, tuple) and len(thing) == DEFINITION_PARTS and is_class_word(thing[0])


def are_sources(thing):
    """Whether it is a tuple of no more sources than a class can have, whatever stands in it."""
    return isinstance(thing, tuple) and len(thing) <= MOST_METHODS


class Judge:
    """What has been read of an object that should be a program."""

    def __init__(self, sources, any_depth):
        self.any_depth = any_depth
        self.book = Book()
        self.book.sources = sources
        self.defined = {}

    def read(self, thing):
        """Reads the whole, as far as it is right."""
        if not isinstance(thing, tuple) or len(thing) != 2:
            raise BadProgram(())
        classes, main = thing
        if not isinstance(classes, tuple) or len(classes) > MOST_CLASSES:
            raise BadProgram(())
        self.defined = {definition[0]: True for definition in classes if is_definition(definition)}
        for index, definition in enumerate(classes):
            if not self.definition_fits(definition):
                raise BadProgram((index,))
            name, parent, fields, class_fields, methods, class_methods = definition
            self.book.put_class(name, parent, fields, class_fields)
            self.read_methods(index, 0, name, methods)
            self.read_methods(index, 1, name + CLASS_WORD, class_methods)
        self.book.main = self.parsed_main(main)
        if self.book.main is None or not self.names_fit(self.book.main, ()):
            raise BadProgram(("main",))

    def definition_fits(self, thing):
        """Whether it is a definition, apart from what its methods are."""
        if not is_definition(thing):
            return False
        name, parent, fields, class_fields, methods, class_methods = thing
        if name in self.book.parents or not self.can_be_parent(parent):
            return False
        if not self.fields_fit(fields, parent) or not self.fields_fit(class_fields, parent + CLASS_WORD):
            return False
        return are_sources(methods) and are_sources(class_methods)

    def can_be_parent(self, thing):
        """Whether it names a class that may be a parent."""
        return thing in PARENTS or thing in self.book.own_names

    def fields_fit(self, thing, parent):
        """Whether it is a tuple of fields that no class above has."""
        if not are_fields(thing):
            return False
        above = self.book.fields_of_class(parent)
        return not any([field in above for field in thing])

    def read_methods(self, index, side, owner, sources):
        """Reads the methods of a class or of its NAME class."""
        fields = self.book.fields_of_class(owner)
        methods = {}
        for number, source in enumerate(sources):
            parsed = self.parsed_source(source)
            if parsed is None or not self.names_fit(parsed, fields):
                raise BadProgram((index, side, number))
            selector = parsed.tree[1]
            if selector in methods or selector in IN_PLACE:
                raise BadProgram((index, side, number))
            methods[selector] = parsed
        self.book.methods[owner] = methods

    def parsed_source(self, source):
        """What is read of the source of a method, None if it is none or too deep."""
        if not isinstance(source, str):
            return None
        sources = self.book.sources
        if source not in sources:
            sources[source] = parsed_or_none(parsed_method, source)
        return self.if_taken(sources[source])

    def parsed_main(self, source):
        """As parsed_source, of main, which is kept apart from the methods."""
        if not isinstance(source, str):
            return None
        sources = self.book.sources
        if (source,) not in sources:
            sources[(source,)] = parsed_or_none(parsed_body, source)
        return self.if_taken(sources[(source,)])

    def if_taken(self, parsed):
        """What was read, None if it is too deep."""
        return parsed if parsed is None or parsed.shallow or self.any_depth else None

    def names_fit(self, parsed, fields):
        """Whether a method reads and sets nothing but these fields and classes, and declares none of the fields."""
        for name in parsed.free:
            if name not in fields and name not in self.book.parents and name not in self.defined:
                return False
        return not fields or not any([name in fields for name in parsed.declared])


def parsed_or_none(parse, source):
    """What is read of a source, None if it is none."""
    try:
        return parse(source)
    except BadSource:
        return None
