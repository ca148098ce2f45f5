"""What comes by all schedules, and what processes touch."""

from imagetalk.counts import MOST_SENDS, is_integer
from imagetalk.engine import NO_END
from imagetalk.programread import read_program
from imagetalk.standings import MOST_STANDINGS, Standings
from imagetalk.stock import Stock
from imagetalk.turner import Turner
from imagetalk.turns import LONGEST_SCHEDULE, check_schedule
from imagetalk.watching import Watch


def standings_of(program, watches):
    """All standings of a program."""
    standings = Standings(program, read_program(program), watches)
    standings.find_all()
    return standings


def goings_of(standings):
    """All goings, the one to the first turn among them."""
    return [standings.first, *[going for goings in standings.goings for going in goings]]


def ends_of(standings):
    """The ascending list of all ends."""
    return sorted({going.told_end for going in goings_of(standings) if going.told_end is not None})


def all_ends(program):
    """The ascending list of the outcomes of all schedules, sends left out."""
    return ends_of(standings_of(program, False))


def schedule_for(program, end):
    """The first of the shortest schedules with an end, None if there is none."""
    return first_schedule(standings_of(program, False), [end])


def is_orderless(program):
    """Whether all schedules have the same end."""
    return len(all_ends(program)) == 1


def stuck_by(program):
    """The first of the shortest schedules by which the run gets stuck, None if there is none."""
    standings = standings_of(program, False)
    return first_schedule(standings, [end for end in ends_of(standings) if end[0] == "stuck"])


def first_schedule(standings, wanted):
    """The first of the shortest schedules with one of these ends, None if there is none that is not too long."""
    if standings.first.to is None:
        return [] if standings.first.told_end in wanted else None
    ends = {}
    for number in standings.order:
        going = standings.goings[number][0]
        ends[number] = going.told_end if going.to is None else ends[going.to]
    found = []
    for number, schedule in enumerate(standings.schedules):
        if ends[number] in wanted:
            found.append((len(schedule), schedule))
        for place, going in enumerate(standings.goings[number]):
            if going.told_end is not None and going.told_end in wanted:
                found.append((len(schedule) + 1, [*schedule, place]))
    if not found:
        return None
    length, schedule = min(found)
    return schedule if length <= LONGEST_SCHEDULE else None


def turn_paper(program):
    """The standings by their numbers, each with those that come from it by the places."""
    standings = standings_of(program, False)
    return [(number, tuple([going.to for going in goings])) for number, goings in enumerate(standings.goings)]


def turn_paper_holds(program, thing):
    """Whether any object is a turn paper."""
    standings = standings_of(program, False)
    if not isinstance(thing, list) or len(thing) > MOST_STANDINGS or not all([is_paper_row(row) for row in thing]):
        return False
    rows = {number: goings for number, goings in thing}
    if len(rows) != len(thing):
        return False
    if standings.first.to is None:
        return thing == []
    return 0 in rows and paper_plays(standings, rows)


def is_paper_row(thing):
    """Whether it is a tuple of a number and a tuple of numbers and None."""
    if not isinstance(thing, tuple) or len(thing) != 2 or not isinstance(thing[1], tuple):
        return False
    numbers = [thing[0], *[number for number in thing[1] if number is not None]]
    return all([is_integer(number) and number >= 0 for number in numbers])


def paper_plays(standings, rows):
    """Whether each number comes up from 0 on and stands for one standing."""
    known = {0: 0}
    waiting = [0]
    while waiting:
        number = waiting.pop()
        goings = standings.goings[known[number]]
        if len(goings) != len(rows[number]):
            return False
        for going, other in zip(goings, rows[number]):
            if (going.to is None) != (other is None):
                return False
            if other is None:
                continue
            if other not in rows or known.get(other, going.to) != going.to:
                return False
            if other not in known:
                known[other] = going.to
                waiting.append(other)
    return len(known) == len(rows)


def touches(program, schedule):
    """What each process touches by a schedule, as (reads, writes, shows, signals)."""
    book = read_program(program)
    check_schedule(schedule)
    run = Turner(Stock(program, book, {}), MOST_SENDS, schedule, None)
    watch = Watch()
    run.watch_by(watch)
    run.start_whole()
    run.go(NO_END)
    rows = []
    for number in range(len(run.strands)):
        reads = places_of(watch.reads, number)
        writes = places_of(watch.writes, number)
        rows.append((reads, writes, number in watch.showing, number in watch.signalling))
    return tuple(rows)


def places_of(touched, number):
    """The ascending tuple of what a process touched, as (owner, number, place)."""
    return tuple(sorted([row[1:] for row in touched if row[0] == number]))


def apart(program):
    """Whether by no schedule the processes have to do with each other."""
    standings = standings_of(program, True)
    if not all([is_apart(going) for going in goings_of(standings)]):
        return False
    written = {}
    foreign = {}
    for number in standings.order:
        goings = standings.goings[number]
        if not all([meets_nothing(going, written, foreign) for going in goings]):
            return False
        written[number] = gathered(goings, written, written_places)
        foreign[number] = gathered(goings, foreign, foreign_places)
    return meets_nothing(standings.first, written, foreign)


def is_apart(going):
    """Whether in a going nothing is touched that another process could touch, but for reads."""
    watch = going.watch
    if going.told_end is not None and going.told_end[0] == "stopped":
        return False
    if watch.strays or watch.ends:
        return False
    if not all([process == 0 for process in [*watch.showing, *watch.signalling]]):
        return False
    return all([process == owner for process, owner, _, _ in watch.writes])


def written_places(going):
    """The places that were written in a going."""
    return [row[1:] for row in going.watch.writes]


def foreign_places(going):
    """The places of other processes' objects that were read in a going."""
    return [row[1:] for row in going.watch.reads if row[0] != row[1]]


def gathered(goings, known, places):
    """The places of all goings and of all that may come behind them, as keys."""
    found = {}
    for going in goings:
        for place in places(going):
            found[place] = True
        if going.to is not None:
            found.update(known[going.to])
    return found


def meets_nothing(going, written, foreign):
    """Whether behind a going nothing is read that it wrote for itself, nor written that it read of others."""
    if going.to is None:
        return True
    if any([place in foreign[going.to] for place in written_places(going)]):
        return False
    return not any([place in written[going.to] for place in foreign_places(going)])
