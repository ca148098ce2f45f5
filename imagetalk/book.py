"""A program that has been read: its classes beside the kernel's, with their methods."""

from imagetalk.kernel import FIELDS_OF, PARENT_OF, kernel_selectors

CLASS_WORD = " class"


class Book:
    """The classes of a program and of the kernel.

    methods has what was read of the program's methods, by class and selector, texts the sources of each class, sources
    what was read of each source, None for what is none.
    """

    def __init__(self):
        self.parents = dict(PARENT_OF)
        self.own_fields = dict(FIELDS_OF)
        self.all_fields = {}
        self.own_names = []
        self.methods = {}
        self.texts = {}
        self.main = None
        self.sources = {}

    def put_class(self, name, parent, fields, class_fields):
        """A class of the program, without methods so far."""
        self.parents[name] = parent
        self.own_names.append(name)
        self.own_fields[name] = fields
        self.own_fields[name + CLASS_WORD] = class_fields

    def has_class(self, thing):
        """Whether any object names a class, of itself or as NAME class."""
        return isinstance(thing, str) and thing.removesuffix(CLASS_WORD) in self.parents

    def has_own_class(self, thing):
        """Whether any object names a class of the program's own, or its NAME class."""
        return isinstance(thing, str) and thing.removesuffix(CLASS_WORD) in self.own_names

    def class_names(self):
        """The ascending list of all classes, NAME classes among them."""
        return sorted(list(self.parents) + [name + CLASS_WORD for name in self.parents])

    def parent_of_class(self, name):
        """The parent of a class, None for Object."""
        if name in self.parents:
            return self.parents[name]
        parent = self.parents[name.removesuffix(CLASS_WORD)]
        return "Class" if parent is None else parent + CLASS_WORD

    def line_of_class(self, name):
        """The class and all above it, itself first."""
        line = []
        while name is not None:
            line.append(name)
            name = self.parent_of_class(name)
        return line

    def fields_of_class(self, name):
        """All fields of its instances, those of the highest class first."""
        if name not in self.all_fields:
            parent = self.parent_of_class(name)
            above = () if parent is None else self.fields_of_class(parent)
            self.all_fields[name] = above + self.own_fields.get(name, ())
        return self.all_fields[name]

    def own_methods(self, name):
        """The methods with a source that a class of the program's own has itself, by their selectors."""
        return self.methods.get(name, {})

    def selectors_of_class(self, name):
        """The selectors of the methods that the class itself has."""
        return list(self.methods[name]) if name in self.methods else kernel_selectors(name)
