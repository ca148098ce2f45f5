"""Methods and fields of classes changed while a run stands."""

from imagetalk.errors import BadClass, Busy
from imagetalk.holding import names_of, reached_nodes
from imagetalk.programs import changed_by_dropping, changed_by_fields, changed_by_method
from imagetalk.stock import Stock
from imagetalk.things import Activation, Closure, Kind


def next_stock(stock, program, book, changed):
    """The stock of a program that another one became; these classes are made anew, with their methods."""
    after = Stock(program, book, {})
    after.kinds = {name: kind for name, kind in stock.kinds.items() if name not in changed}
    after.own = {key: method for key, method in stock.own.items() if key[0] not in changed}
    after.lasting = stock.lasting
    after.main = stock.main
    return after


def put_method_in(run, name, source):
    """A class has this method from now on."""
    stock = run.stock
    program, book = changed_by_method(stock.source_program, stock.book, name, source)
    selector = book.sources[source].tree[1]
    run.stock = stock_without(stock, program, book, (name, selector))
    run.put_literals(run.stock.method_of_program(name, selector))


def drop_method_of(run, name, selector):
    """A class has no method with this selector from now on."""
    stock = run.stock
    program, book = changed_by_dropping(stock.source_program, stock.book, name, selector)
    run.stock = stock_without(stock, program, book, (name, selector))


def stock_without(stock, program, book, key):
    """The stock of a program that another one became, without what it knew of one method."""
    after = next_stock(stock, program, book, ())
    after.own = {found: method for found, method in after.own.items() if found != key}
    return after


def change_fields_of(run, name, fields):
    """A class has these own fields from now on; its objects keep those that it had."""
    stock = run.stock
    if not isinstance(name, str) or name not in stock.book.own_names:
        raise BadClass("no class of the program's own")
    program, book = changed_by_fields(stock.source_program, stock.book, name, fields)
    changed = [below for below in stock.book.own_names if name in stock.book.line_of_class(below)]
    if is_at_work(run, changed):
        raise Busy("a method of the class is at work")
    run.stock = next_stock(stock, program, book, changed)
    for key, method in list(stock.own.items()):
        if key[0] in changed and method in run.literals:
            run.literals[run.stock.method_of_program(*key)] = run.literals.pop(method)
    for thing in list(run.classes.values()) + run.things:
        change_thing(run.stock, thing, changed)


def is_at_work(run, names):
    """Whether an activation is of a method that one of these classes has, or had."""
    for strand in run.strands:
        for act in strand.acts:
            if isinstance(act, Activation) and act.method.kind.name in names:
                return True
    # All activations in which a Block was made, and around that, are of one method.
    blocks = [thing.data.around.method for thing in run.things if isinstance(thing.data, Closure)]
    if not any([method.kind.name in names for method in blocks]):
        return False
    nodes = reached_nodes(run, names_of(run))
    return any([isinstance(node, Activation) and node.method.kind.name in names for node in nodes])


def change_thing(stock, thing, changed):
    """An object is one of its class as it is now, if that is one of the changed ones, or is such a class."""
    if thing.kind.name in changed:
        known = {field: value for field, value in zip(thing.kind.field_names, thing.parts)}
        thing.kind = stock.kind_named(thing.kind.name)
        thing.parts = [known.get(field) for field in thing.kind.field_names]
    if isinstance(thing.data, Kind) and thing.data.name in changed:
        thing.data = stock.kind_named(thing.data.name)
