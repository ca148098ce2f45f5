"""Programs, held against each other and changed."""

from imagetalk.book import CLASS_WORD
from imagetalk.errors import BadClass, BadFields, BadParent, BadProgram, NoMethod
from imagetalk.kernel import PARENTS
from imagetalk.names import are_fields
from imagetalk.parsing import parsed_body, parsed_method
from imagetalk.programread import read_beside, read_changed, read_changed_by, read_program
from imagetalk.trees import check_depth


def is_program(thing):
    """Whether any object is a program."""
    try:
        read_program(thing)
    except BadProgram:
        return False
    return True


def same_program(program, other):
    """The first where at which two programs differ, None if it is in no more than the words of sources."""
    book = read_program(program)
    return where_unlike(program, book, other, read_beside(other, book))


def where_unlike(program, book, other, against):
    """As same_program, for two programs that have been read."""
    for index in range(max(len(program[0]), len(other[0]))):
        if heads_at(program, index) != heads_at(other, index):
            return (index,)
        name = program[0][index][0]
        for side, owner in enumerate((name, name + CLASS_WORD)):
            number = first_place_unlike(trees_of(book.methods[owner]), trees_of(against.methods[owner]))
            if number is not None:
                return (index, side, number)
    return None if book.main.tree == against.main.tree else ("main",)


def trees_of(methods):
    """The trees of methods, in order."""
    return [parsed.tree for parsed in methods.values()]


def heads_at(program, index):
    """The definition at this place without its methods, in a list, an empty one if there is none."""
    return [definition[:4] for definition in program[0][index:index + 1]]


def first_place_unlike(trees, others):
    """The first place at which two lists differ, None if there is none."""
    for number in range(max(len(trees), len(others))):
        if trees[number:number + 1] != others[number:number + 1]:
            return number
    return None


def with_method(program, name, source):
    """The program in which a class has this method."""
    changed, _ = changed_by_method(program, read_program(program), name, source)
    return changed


def changed_by_method(program, book, name, source):
    """The program in which a class has this method, and its Book; that of the program is known."""
    index, side = own_place(book, name)
    parsed = parsed_method(source)
    sources = program[0][index][4 + side]
    number = number_of(book, name, parsed.tree[1])
    changed = with_part(program, index, 4 + side, (*sources[:number], source, *sources[number + 1:]))
    against = read_changed_by(changed, book, source, parsed)
    check_depth(parsed)
    return (changed, against)


def without_method(program, name, selector):
    """The program in which a class has no method with this selector."""
    changed, _ = changed_by_dropping(program, read_program(program), name, selector)
    return changed


def changed_by_dropping(program, book, name, selector):
    """The program in which a class has no method with this selector, and its Book; that of the program is known."""
    index, side = own_place(book, name)
    if not isinstance(selector, str) or selector not in book.methods[name]:
        raise NoMethod("no method that the class itself has")
    sources = program[0][index][4 + side]
    number = number_of(book, name, selector)
    changed = with_part(program, index, 4 + side, (*sources[:number], *sources[number + 1:]))
    return (changed, read_changed(changed, book))


def with_fields(program, name, fields):
    """The program in which a class has other own fields."""
    changed, _ = changed_by_fields(program, read_program(program), name, fields)
    return changed


def changed_by_fields(program, book, name, fields):
    """The program in which a class has other own fields, and its Book; that of the program is known."""
    index, side = own_place(book, name)
    if not are_fields(fields):
        raise BadFields("not a tuple of own fields")
    changed = with_part(program, index, 2 + side, fields)
    return (changed, read_changed(changed, book))


def changed_by_own_fields(program, name, fields):
    """As with_fields, for a class by its name and for any tuple of names: BadProgram for what can be no fields."""
    book = read_program(program)
    index, side = own_place(book, name)
    if side == 1:
        raise BadClass("not a class by its name")
    changed = with_part(program, index, 2, fields)
    read_changed(changed, book)
    return changed


def with_class(program, name, parent, fields):
    """The program with one class more, which has no methods."""
    classes, main = program
    changed = ((*classes, (name, parent, fields, (), (), ())), main)
    read_program(changed)
    return changed


def with_main(program, source):
    """The program with another main."""
    book = read_program(program)
    parsed = parsed_body(source)
    changed = (program[0], source)
    read_changed_by(changed, book, (source,), parsed)
    check_depth(parsed)
    return changed


def with_parent(program, name, parent):
    """The program in which a class has another parent."""
    book = read_program(program)
    index, side = own_place(book, name)
    if side == 1:
        raise BadClass("not a class by its name")
    if not can_become_parent(book, name, parent):
        raise BadParent("not a class that can become the parent")
    classes, main = with_part(program, index, 1, parent)
    if parent in book.own_names[index:]:
        classes = moved(book, classes, name, parent)
    read_changed((classes, main), book)
    return (classes, main)


def own_place(book, name):
    """The index of a class of the program's own and its side: 0 for the class itself, 1 for its NAME class."""
    if not book.has_own_class(name):
        raise BadClass("no class of the program's own")
    side = 1 if name.endswith(CLASS_WORD) else 0
    return (book.own_names.index(name.removesuffix(CLASS_WORD)), side)


def number_of(book, name, selector):
    """The number of the method with this selector, that of the next one if there is none."""
    selectors = list(book.methods[name])
    return selectors.index(selector) if selector in selectors else len(selectors)


def with_part(program, index, place, thing):
    """The program with another thing at a place of one of its definitions."""
    classes, main = program
    definition = classes[index]
    changed = (*definition[:place], thing, *definition[place + 1:])
    return ((*classes[:index], changed, *classes[index + 1:]), main)


def can_become_parent(book, name, parent):
    """Whether any object names a class that can be a parent and is neither the class itself nor below it."""
    if parent not in PARENTS and parent not in book.own_names:
        return False
    return name not in book.line_of_class(parent)


def moved(book, classes, name, parent):
    """The definitions, those of the class and of all below it directly behind that of the parent."""
    below = [definition for definition in classes if name in book.line_of_class(definition[0])]
    rest = []
    for definition in classes:
        if definition not in below:
            rest.append(definition)
            if definition[0] == parent:
                rest.extend(below)
    return tuple(rest)
