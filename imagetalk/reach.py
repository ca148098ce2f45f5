"""Which methods stand where, and which ones a program can reach, without a run."""

from imagetalk.book import CLASS_WORD
from imagetalk.classes import check_selector
from imagetalk.facts import Ledger
from imagetalk.kernel import TEXTS
from imagetalk.names import is_keywords
from imagetalk.programread import read_program
from imagetalk.reaching import reach_of
from imagetalk.reachpaper import paper_holds


def senders(program, selector):
    """The ascending list of the methods, those of the kernel among them, in which a message with a selector stands."""
    book = read_program(program)
    check_selector(selector)
    ledger = Ledger(book)
    kernel = [(owner, name) for owner, rows in TEXTS.items() for name, source in rows if may_send(source, selector)]
    return sorted([key for key in [*ledger.own_keys(), *kernel] if sends(ledger, key, selector)])


def may_send(source, selector):
    """Whether the first word of a selector stands in a source, which is quickly seen."""
    word = selector.partition(":")[0] if is_keywords(selector) else selector
    return word in source


def sends(ledger, key, selector):
    """Whether a message with a selector stands in a method."""
    facts = ledger.facts(key)
    return selector in facts.plain or selector in facts.to_super


def implementers(program, selector):
    """The ascending list of the classes that have a method for a selector themselves, with a source or by rule."""
    book = read_program(program)
    check_selector(selector)
    return sorted([name for name in book.class_names() if selector in book.selectors_of_class(name)])


def reached(program):
    """The ascending list of the methods that can be reached."""
    reach = reach_of(read_program(program))
    return sorted(reach.methods)


def live_classes(program):
    """The ascending list of the classes that are live."""
    reach = reach_of(read_program(program))
    return sorted(reach.live)


def never_reached(program):
    """The ascending list of the methods of the program that cannot be reached."""
    reach = reach_of(read_program(program))
    return sorted([key for key in reach.ledger.own_keys() if key not in reach.methods])


def reach_holds(program, thing):
    """Whether any object is a reach paper."""
    return paper_holds(Ledger(read_program(program)), thing)


def not_understood(program):
    """The ascending list of the messages in reached methods that nothing understands, as (class, method, selector)."""
    reach = reach_of(read_program(program))
    understood = understood_by(reach)
    rows = []
    for key in reach.ledger.own_keys():
        if key in reach.methods:
            facts = reach.ledger.facts(key)
            selectors = {selector: True for selector in [*facts.plain, *facts.to_super]}
            rows.extend([(*key, selector) for selector in selectors if selector not in understood])
    return sorted(rows)


def understood_by(reach):
    """The selectors that a live class or the NAME class of one understands, as keys."""
    found = {}
    for name in reach.live:
        for owner in (name, name + CLASS_WORD):
            for selector in reach.ledger.book.selectors_of_class(owner):
                found[selector] = True
    return found


def least_program(program):
    """The program without the methods and classes that cannot be reached."""
    book = read_program(program)
    reach = reach_of(book)
    classes = []
    for definition in program[0]:
        name = definition[0]
        if name in reach.live:
            sides = [reached_sources(reach, owner, sources)
                     for owner, sources in ((name, definition[4]), (name + CLASS_WORD, definition[5]))]
            classes.append((*definition[:4], *sides))
    return (tuple(classes), program[1])


def reached_sources(reach, owner, sources):
    """The sources of a class that are reached."""
    selectors = reach.ledger.book.methods[owner]
    return tuple([source for selector, source in zip(selectors, sources) if (owner, selector) in reach.methods])
