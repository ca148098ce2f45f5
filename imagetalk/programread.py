"""Any object to a Book, if it is a program."""

from imagetalk.book import CLASS_WORD, Book
from imagetalk.errors import BadProgram, BadSource
from imagetalk.kernel import IN_PLACE, PARENTS
from imagetalk.names import are_fields, is_class_word
from imagetalk.reader import parsed_body, parsed_method
from imagetalk.treeparts import DEEPEST, declared_names, depth_of, free_names

MOST_CLASSES = 12
MOST_METHODS = 20
DEFINITION_PARTS = 6


def read_program(thing, any_depth=False):
    """The Book of a program; with any_depth, sources that TooMany would refuse are taken as well."""
    judge = Judge(any_depth)
    judge.read(thing)
    return judge.book


def is_definition(thing):
    """Whether it is a tuple of six with a name of a class first."""
    return isinstance(thing, tuple) and len(thing) == DEFINITION_PARTS and is_class_word(thing[0])


def are_sources(thing):
    """Whether it is a tuple of no more sources than a class can have, whatever stands in it."""
    return isinstance(thing, tuple) and len(thing) <= MOST_METHODS


class Judge:
    """What has been read of an object that should be a program."""

    def __init__(self, any_depth):
        self.any_depth = any_depth
        self.book = Book()
        self.defined = []

    def read(self, thing):
        """Reads the whole, as far as it is right."""
        if not isinstance(thing, tuple) or len(thing) != 2:
            raise BadProgram(())
        classes, main = thing
        if not isinstance(classes, tuple) or len(classes) > MOST_CLASSES:
            raise BadProgram(())
        self.defined = [definition[0] for definition in classes if is_definition(definition)]
        for index, definition in enumerate(classes):
            if not self.definition_fits(definition):
                raise BadProgram((index,))
            name, parent, fields, class_fields, methods, class_methods = definition
            self.book.put_class(name, parent, fields, class_fields)
            self.read_methods((index, 0), name, methods)
            self.read_methods((index, 1), name + CLASS_WORD, class_methods)
        self.book.main = self.tree_of(parsed_body, main)
        if self.book.main is None or not self.names_fit(self.book.main, ()):
            raise BadProgram(("main",))

    def definition_fits(self, thing):
        """Whether it is a definition, apart from what its methods are."""
        if not is_definition(thing):
            return False
        name, parent, fields, class_fields, methods, class_methods = thing
        if name in self.book.parents or not self.can_be_parent(parent):
            return False
        if not self.fields_fit(fields, parent) or not self.fields_fit(class_fields, parent + CLASS_WORD):
            return False
        return are_sources(methods) and are_sources(class_methods)

    def can_be_parent(self, thing):
        """Whether it names a class that may be a parent."""
        return thing in PARENTS or thing in self.book.own_names

    def fields_fit(self, thing, parent):
        """Whether it is a tuple of fields that no class above has."""
        if not are_fields(thing):
            return False
        above = self.book.fields_of_class(parent)
        return not any([field in above for field in thing])

    def read_methods(self, place, owner, sources):
        """Reads the methods of a class or of its NAME class."""
        fields = self.book.fields_of_class(owner)
        trees = {}
        for number, source in enumerate(sources):
            tree = self.tree_of(parsed_method, source)
            if tree is None or tree[1] in trees or tree[1] in IN_PLACE or not self.names_fit(tree, fields):
                raise BadProgram((*place, number))
            trees[tree[1]] = tree
        self.book.trees[owner] = trees

    def tree_of(self, parse, source):
        """The tree that is parsed from a source, None if it is none or too deep."""
        try:
            tree = parse(source)
        except BadSource:
            return None
        return tree if self.any_depth or depth_of(tree) <= DEEPEST else None

    def names_fit(self, tree, fields):
        """Whether a method reads and sets nothing but these fields and classes, and declares none of the fields."""
        for name in free_names(tree):
            if name not in fields and name not in self.book.parents and name not in self.defined:
                return False
        return not any([name in fields for name in declared_names(tree)])
