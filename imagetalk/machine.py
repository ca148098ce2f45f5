"""Programs worked by codes."""

from imagetalk.classes import book_with, check_selector
from imagetalk.counts import MOST_CODES_DONE, MOST_SENDS, check_codes, check_sends, is_integer
from imagetalk.engine import NO_END, begun
from imagetalk.errors import BadCount, BadPlaces
from imagetalk.judged import can_have_places
from imagetalk.moments import moment_of
from imagetalk.programread import read_program
from imagetalk.stock import Stock


def worked(program, sends, in_place):
    """The run of a program, at its end."""
    book = read_program(program)
    check_sends(sends)
    run = begun(Stock(program, book, {}), sends, in_place)
    run.go(NO_END)
    return run


def machine(program, sends, *, in_place=True):
    """The outcome of a program."""
    run = worked(program, sends, in_place)
    return run.outcome()


def machine_trace(program, sends, *, in_place=True):
    """The trace of a program: all messages in order, each as (depth, class, selector)."""
    run = worked(program, sends, in_place)
    return run.messages


def machine_with(program, places, sends):
    """The outcome of a program with made methods in the place of some of its own."""
    book = read_program(program)
    if not can_have_places(book, places):
        raise BadPlaces("not a list of made methods that can be put in")
    check_sends(sends)
    placed = {(name, made[0]): made for name, made in places}
    run = begun(Stock(program, book, placed), sends, True)
    run.go(NO_END)
    return run.outcome()


def codes_done(program, sends):
    """How many codes are done until the run of a program ends."""
    run = worked(program, sends, True)
    return run.done


def moment(program, count):
    """The activations of the process that goes on behind so many codes, () at the end of the run."""
    book = read_program(program)
    check_codes(count)
    run = begun(Stock(program, book, {}), MOST_SENDS, True)
    run.go(count)
    return () if run.ending is not None else moment_of(run)


def deepest(program):
    """The greatest number of activations of one process that the run ever has."""
    run = worked(program, MOST_SENDS, True)
    return run.deepest


def first_at(program, name, selector, place):
    """The least number of codes behind which a method's activation is topmost at a place, None if there is none."""
    book = book_with(program, name)
    check_selector(selector)
    if not is_integer(place):
        raise BadCount("not an integer")
    run = begun(Stock(program, book, {}), MOST_SENDS, True)
    while run.ending is None and run.done <= MOST_CODES_DONE:
        act = run.acts[-1]
        if act.kind == "method" and act.place == place and is_of(act.method, name, selector):
            return run.done
        run.go(1)
    return None


def is_of(method, name, selector):
    """Whether it is the method that a class has itself for a selector."""
    return method.kind.name == name and method.selector == selector
