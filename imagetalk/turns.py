"""Programs run by schedules."""

from imagetalk.counts import MOST_SENDS, check_sends, is_integer
from imagetalk.engine import NO_END
from imagetalk.errors import BadCount, BadSchedule
from imagetalk.programread import read_program
from imagetalk.stock import Stock
from imagetalk.turner import Turner

LONGEST_SCHEDULE = 60
LAST_PLACE = 7


def check_schedule(thing):
    """Refuses what is no schedule."""
    if not isinstance(thing, list) or len(thing) > LONGEST_SCHEDULE:
        raise BadSchedule(-1)
    if not all([is_integer(place) and 0 <= place <= LAST_PLACE for place in thing]):
        raise BadSchedule(-1)


def run_by(program, schedule, sends):
    """The outcome of a program by a schedule."""
    book = read_program(program)
    check_schedule(schedule)
    check_sends(sends)
    run = Turner(Stock(program, book, {}), sends, schedule, None)
    run.start()
    run.go(NO_END)
    return run.outcome()


def ready_at(program, schedule, turn):
    """The numbers of the processes that are ready at a turn, None if the run ends ahead of it."""
    book = read_program(program)
    check_schedule(schedule)
    if not is_integer(turn) or turn < 0:
        raise BadCount("not an integer from 0 on")
    run = Turner(Stock(program, book, {}), MOST_SENDS, schedule, turn)
    run.start()
    run.go(NO_END)
    return [strand.number for strand in run.ready] if run.ending is None else None
