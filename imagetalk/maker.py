"""Sources of a program to made methods."""

from imagetalk.classes import book_with
from imagetalk.errors import NoMethod
from imagetalk.kernel import kernel_source
from imagetalk.plans import planned
from imagetalk.parsing import parsed_method
from imagetalk.programread import read_program
from imagetalk.programs import changed_by_method


def make(program, name, source, *, in_place=True):
    """The made method that a source becomes in a class of the program's own."""
    _, book = changed_by_method(program, read_program(program), name, source)
    return made_from(book.sources[source], book.fields_of_class(name), False, in_place)


def make_main(program, *, in_place=True):
    """The made method of main."""
    book = read_program(program)
    return made_from(book.main, (), True, in_place)


def made_of(program, name, selector, *, in_place=True):
    """The made method of a method with a source that the class itself has."""
    book = book_with(program, name)
    if not isinstance(selector, str):
        raise NoMethod("no method that the class itself has")
    fields = book.fields_of_class(name)
    methods = book.own_methods(name)
    if selector in methods:
        return made_from(methods[selector], fields, False, in_place)
    source = kernel_source(name, selector)
    if source is None:
        raise NoMethod("no method with a source that the class itself has")
    return made_from(parsed_method(source), fields, False, True)


def made_from(parsed, fields, is_main, in_place):
    """The made method of what was read of a method of a class with these fields."""
    plan, literals = planned(parsed, fields, is_main, in_place, True)
    return (parsed.tree[1], literals, plan)
