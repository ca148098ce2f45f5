"""Questions about the classes of a program and of the kernel."""

from imagetalk.book import CLASS_WORD
from imagetalk.errors import BadClass, BadSelector
from imagetalk.kernel import kernel_source
from imagetalk.names import is_method_selector
from imagetalk.programread import read_program
from imagetalk.trees import read_method


def book_with(program, name):
    """The Book of a program that has this class."""
    book = read_program(program)
    if not book.has_class(name):
        raise BadClass("no class of the program")
    return book


def parent_of(program, name):
    """The parent of a class, None for Object."""
    book = book_with(program, name)
    return book.parent_of_class(name)


def class_of(program, name):
    """The class of the class itself."""
    book_with(program, name)
    return class_of_class(name)


def class_of_class(name):
    """The class of a class."""
    return "Metaclass" if name.endswith(CLASS_WORD) else name + CLASS_WORD


def fields_of(program, name):
    """All fields of the instances of a class, those of the highest class first."""
    book = book_with(program, name)
    return book.fields_of_class(name)


def line_of(program, name):
    """The class and all above it, itself first."""
    book = book_with(program, name)
    return book.line_of_class(name)


def children_of(program, name):
    """The ascending list of the classes whose parent it is."""
    book = book_with(program, name)
    return [below for below in book.class_names() if book.parent_of_class(below) == name]


def tower(program):
    """The ascending list of all classes, each as (class, its class, its parent or None)."""
    book = read_program(program)
    return [(name, class_of_class(name), book.parent_of_class(name)) for name in book.class_names()]


def lookup(program, name, selector):
    """The nearest class from this one on that has a method for the selector, None if there is none."""
    book = book_with(program, name)
    check_selector(selector)
    return nearest(book, book.line_of_class(name), selector)


def check_selector(selector):
    """Refuses what is by its form no selector of a method."""
    if not is_method_selector(selector):
        raise BadSelector("not a selector of a method")


def nearest(book, line, selector):
    """The first of these classes that has a method for the selector itself, None if there is none."""
    for name in line:
        if selector in book.selectors_of_class(name):
            return name
    return None


def methods_of(program, name):
    """The ascending list of the selectors that the instances of a class understand."""
    book = book_with(program, name)
    found = {}
    for above in book.line_of_class(name):
        for selector in book.selectors_of_class(above):
            found[selector] = True
    return sorted(found)


def method_of(program, name, selector):
    """The tree of a method that the class itself has, None if it has none with a source."""
    book = book_with(program, name)
    check_selector(selector)
    methods = book.own_methods(name)
    if selector in methods:
        return methods[selector].tree
    source = kernel_source(name, selector)
    return read_method(source) if source is not None else None


def overridden(program, name):
    """The ascending list of the methods that the class and one above have, each as (selector, nearest class above)."""
    book = book_with(program, name)
    above = book.line_of_class(name)[1:]
    rows = []
    for selector in sorted(book.selectors_of_class(name)):
        owner = nearest(book, above, selector)
        if owner is not None:
            rows.append((selector, owner))
    return rows
