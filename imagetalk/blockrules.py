"""What is done by rule in Block, Exception, Process, Semaphore and Processor class."""

from imagetalk.objectrules import is_class, is_instance
from imagetalk.things import Guard, Refused
from imagetalk.turning import fork_block, process_that_goes_on, signal_semaphore, terminate_process, wait_at, yield_turn
from imagetalk.ways import leave, newest_handler, signal_below


def arity(block):
    """How many parameters a Block has."""
    return block.data.body[0]


def check_arity(block, many):
    """Refuses a Block with another number of parameters."""
    if arity(block) != many:
        raise Refused("WrongArguments")


def check_block(value):
    """Refuses what is no Block."""
    if not is_instance(value, "Block"):
        raise Refused("BadKind")


def parameters_many(run, receiver):
    """Block `numArgs`."""
    return arity(receiver)


def value_of(run, receiver, *arguments):
    """Block `value`, `value:` and `value:value:`."""
    check_arity(receiver, len(arguments))
    run.work(receiver, arguments, None)


def value_with(run, receiver, array):
    """Block `valueWithArguments:`."""
    if not is_instance(array, "Array"):
        raise Refused("BadKind")
    check_arity(receiver, len(array.data))
    run.work(receiver, array.data, None)


def ensure(run, receiver, argument):
    """Block `ensure:`."""
    begin_guard(run, "ensure", receiver, argument)


def if_curtailed(run, receiver, argument):
    """Block `ifCurtailed:`."""
    begin_guard(run, "curtail", receiver, argument)


def begin_guard(run, kind, receiver, argument):
    """Works the receiver above an activation that may work the argument."""
    check_block(argument)
    check_arity(receiver, 0)
    check_arity(argument, 0)
    run.push(Guard(kind, receiver, argument, None))
    run.work(receiver, (), "receiver")


def on_do(run, receiver, caught, argument):
    """Block `on:do:`."""
    check_block(argument)
    if not is_class(caught) or arity(argument) > 1:
        raise Refused("BadKind")
    check_arity(receiver, 0)
    run.push(Guard("handle", receiver, argument, caught.data.name))
    run.work(receiver, (), "receiver")


def signal(run, receiver):
    """Exception `signal`."""
    signal_below(run, receiver, len(run.acts))


def handler_of(run, exception):
    """The activation of the newest Block that handles an exception."""
    act = newest_handler(run, exception)
    if act is None:
        raise Refused("BadKind")
    return act


def return_value(run, receiver, value):
    """Exception `return:`."""
    act = handler_of(run, receiver)
    leave(run, act.held.guard.level, "return", value)


def retry(run, receiver):
    """Exception `retry`."""
    act = handler_of(run, receiver)
    leave(run, act.held.guard.level, "retry", None)


def resume(run, receiver, value):
    """Exception `resume:`: the signal was sent by the activation directly below the handler's."""
    act = handler_of(run, receiver)
    if receiver.kind.is_kind_of("Error"):
        raise Refused("CannotResume")
    leave(run, act.level - 1, "resume", value)


def pass_on(run, receiver):
    """Exception `pass`."""
    act = handler_of(run, receiver)
    signal_below(run, receiver, act.held.guard.level)


def fork(run, receiver):
    """Block `fork`."""
    check_arity(receiver, 0)
    run.deliver(fork_block(run, receiver))


def wait(run, receiver):
    """Semaphore `wait`."""
    wait_at(run, receiver)


def signal_one(run, receiver):
    """Semaphore `signal`."""
    signal_semaphore(run, receiver)
    run.deliver(receiver)


def terminate(run, receiver):
    """Process `terminate`."""
    terminate_process(run, receiver.data)


def yield_to_others(run, receiver):
    """Processor class `yield`."""
    yield_turn(run, receiver)


def me(run, receiver):
    """Processor class `me`."""
    run.deliver(process_that_goes_on(run))


BLOCK_RULES = {
    ("Block", "value"): value_of,
    ("Block", "value:"): value_of,
    ("Block", "value:value:"): value_of,
    ("Block", "valueWithArguments:"): value_with,
    ("Block", "ensure:"): ensure,
    ("Block", "ifCurtailed:"): if_curtailed,
    ("Block", "on:do:"): on_do,
    ("Block", "fork"): fork,
    ("Exception", "signal"): signal,
    ("Exception", "return:"): return_value,
    ("Exception", "retry"): retry,
    ("Exception", "resume:"): resume,
    ("Exception", "pass"): pass_on,
    ("Semaphore", "wait"): wait,
    ("Semaphore", "signal"): signal_one,
    ("Process", "terminate"): terminate,
    ("Processor class", "yield"): yield_to_others,
    ("Processor class", "me"): me,
}
ARITY_RULES = {
    ("Block", "numArgs"): parameters_many,
}
