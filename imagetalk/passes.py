"""Made methods made better without a change of what comes."""

from imagetalk.codes import all_bodies, check_made
from imagetalk.errors import BadCodes, NotSound
from imagetalk.passing import again, decide, fold, peep, tail_all, thread, trim
from imagetalk.soundness import Ground, heights_on


def check_passable(made):
    """Refuses what is no made method, and one that is sound wherever its fields and classes are."""
    check_made(made)
    try:
        heights_on(made, Ground(None, None))
    except BadCodes as wrong:
        raise NotSound("not a sound made method") from wrong


def passed(made, change):
    """The made method in which each body is changed by itself."""
    return (made[0], made[1], passed_body(made[2], change))


def passed_body(body, change):
    """A body changed, and then all that is left within it."""
    parameters, variables, codes, blocks = change(body)
    return (parameters, variables, codes, tuple([passed_body(block, change) for block in blocks]))


def trimmed(made):
    """Without the codes that cannot be come to and the blocks that are named no more."""
    check_passable(made)
    return passed(made, trim)


def threaded(made):
    """With targets that lie at no jumps."""
    check_passable(made)
    return passed(made, thread)


def folded(made):
    """With what messages between integers answer in their place."""
    check_passable(made)
    return passed(made, fold)


def tested(made):
    """Without tests of true and false."""
    check_passable(made)
    return passed(made, decide)


def peeped(made):
    """Without values that nothing needs."""
    check_passable(made)
    return passed(made, peep)


def tailed(made):
    """With tails in the place of the messages with whose answer a method without blocks ends."""
    check_passable(made)
    return tailed_sound(made)


def tailed_sound(made):
    """As tailed, for a made method that has been judged."""
    selector, literals, body = made
    if body[3]:
        return passed(made, trim)
    return (selector, literals, tail_all(body))


def least_made(made):
    """As small as folded, tested, peeped and threaded make it."""
    check_passable(made)
    return again(least_round, made)


def least_round(made):
    """One round of least_made."""
    for change in (fold, decide, peep, thread):
        made = passed(made, change)
    return made


def sizes_told(made):
    """How many codes it has, behind each of the six passes, and behind least_made."""
    check_passable(made)
    rows = [made]
    for change in (trim, thread, fold, decide, peep):
        rows.append(passed(made, change))
    rows.append(tailed_sound(made))
    rows.append(again(least_round, made))
    return tuple([sum([len(body[2]) for body in all_bodies(row[2])]) for row in rows])
