"""What methods have to do with each other, and with the blocks within them, without a run."""

from imagetalk.codes import all_bodies
from imagetalk.facts import MAIN, Ledger
from imagetalk.maker import made_from
from imagetalk.programread import read_program
from imagetalk.reaching import reach_of
from imagetalk.rings import on_rings


def parsed_of(book, key):
    """What was read of a method of the program."""
    return book.main if key == MAIN else book.methods[key[0]][key[1]]


def body_of(book, key):
    """The body of a method of the program, as it is made."""
    fields = () if key == MAIN else book.fields_of_class(key[0])
    return made_from(parsed_of(book, key), fields, key == MAIN, True)[2]


def far_returns(program):
    """The ascending list of the methods that have a return in a block that is not done in place."""
    book = read_program(program)
    return sorted([key for key in Ledger(book).own_keys() if returns_far(body_of(book, key))])


def returns_far(body):
    """Whether a block that is not done in place has a return."""
    return any([("return",) in block[2] for block in all_bodies(body)])


def keeps(program):
    """The ascending list of the variables of methods that lasting blocks name, each as (class, selector, name)."""
    book = read_program(program)
    rows = []
    for key in Ledger(book).own_keys():
        _, _, parameters, variables, _ = parsed_of(book, key).tree
        names = (*parameters, *variables)
        kept = {}
        for block in body_of(book, key)[3] if names else ():
            put_kept(block, 1, kept)
        rows.extend([(*key, names[place]) for place in kept if place < len(names)])
    return sorted(rows)


def put_kept(body, depth, kept):
    """Puts the places of the method's variables that a body, so many blocks deep, and those within it name."""
    for code in body[2]:
        if code[0] in ("temp", "settemp") and code[1] == depth:
            kept[code[2]] = True
    for block in body[3]:
        put_kept(block, depth + 1, kept)


def calls(program):
    """The ascending list of the pairs of reached methods of the program of which the first one reaches the second."""
    reach = reach_of(read_program(program))
    own = {key: True for key in reach.ledger.own_keys() if key in reach.methods}
    rows = {}
    for key in own:
        direct, selectors = reach.reached_by(key)
        for target in [*direct, *[found for selector in selectors for found in reach.targets(selector)]]:
            if target in own:
                rows[(key, target)] = True
    return sorted(rows)


def ringless(program):
    """The ascending list of the reached methods of the program that lie on no ring of calls, also over the kernel's."""
    reach = reach_of(read_program(program))
    edges = {}
    for key in reach.methods:
        direct, selectors = reach.reached_by(key)
        edges[key] = [*direct, *selectors]
        for selector in selectors:
            edges[selector] = reach.targets(selector)
    ring = on_rings(edges)
    return sorted([key for key in reach.ledger.own_keys() if key in reach.methods and key not in ring])
