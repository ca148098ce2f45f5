"""Programs worked over their trees."""

from imagetalk.counts import check_sends
from imagetalk.errors import BadProgram
from imagetalk.parsing import parsed_body
from imagetalk.programread import read_program
from imagetalk.stock import Stock
from imagetalk.telling import value_tree
from imagetalk.trees import check_depth
from imagetalk.walker import Walk


def walked(program, sends, in_place):
    """The run of a program, at its end."""
    book = read_program(program)
    check_sends(sends)
    run = Walk(Stock(program, book, {}), sends, in_place)
    run.start()
    run.go()
    return run


def walk(program, sends, *, in_place=True):
    """The outcome of a program."""
    run = walked(program, sends, in_place)
    return run.outcome()


def walk_trace(program, sends, *, in_place=True):
    """The trace of a program: all messages in order, each as (depth, class, selector)."""
    run = walked(program, sends, in_place)
    return run.messages


def walk_value(program, sends):
    """The tree of the value with which a program ends, None if it ends otherwise."""
    run = walked(program, sends, True)
    return value_tree(run.final) if run.ending[0] == "value" else None


def answers(program, source, sends):
    """The outcome of a program with another main."""
    book = read_program(program)
    parsed = parsed_body(source)
    check_sends(sends)
    for name in parsed.free:
        if name not in book.parents:
            raise BadProgram(("main",))
    check_depth(parsed)
    book.main = parsed
    run = Walk(Stock(program, book, {}), sends, True)
    run.start()
    run.go()
    return run.outcome()
