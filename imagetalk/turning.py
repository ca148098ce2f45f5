"""Processes: how they are made, take turns, wait and end."""

from imagetalk.things import Remains, Stopped, Strand
from imagetalk.ways import gives_up_main, leave

MOST_PROCESSES = 8


def fork_block(run, block):
    """A new Process that will work a Block."""
    if len(run.strands) >= MOST_PROCESSES:
        raise Stopped("processes")
    strand = Strand(len(run.strands), block)
    strand.thing = new_process(run, strand)
    run.strands.append(strand)
    run.ready.append(strand)
    return strand.thing


def new_process(run, strand):
    """The Process, as an object, of a process."""
    return run.new_thing(run.kind_named("Process"), strand)


def process_that_goes_on(run):
    """The Process that goes on, made if it was not there."""
    strand = run.going
    if strand.thing is None:
        strand.thing = new_process(run, strand)
    return strand.thing


def take_turn(run):
    """A turn comes; if no process is ready the run is stuck."""
    if run.ready:
        run.turn()
    else:
        run.end("stuck", "")


def go_on_with(run, place):
    """The process at this place among those that are ready goes on."""
    strand = run.ready.pop(place)
    run.going = strand
    run.acts = strand.acts
    if strand.block is not None:
        block = strand.block
        strand.block = None
        run.work(block, (), "process")
    else:
        answer = strand.comes
        strand.comes = None
        run.deliver(answer)


def yield_turn(run, answer):
    """The process that goes on is ready behind all others; the answer comes when it goes on."""
    strand = run.going
    strand.comes = answer
    run.ready.append(strand)
    take_turn(run)


def wait_at(run, semaphore):
    """The process that goes on takes a signal, or waits for one."""
    signals = semaphore.data
    if signals.count > 0:
        signals.count -= 1
        run.deliver(semaphore)
        return
    strand = run.going
    strand.waits_at = semaphore
    strand.comes = semaphore
    signals.waiting.append(strand)
    take_turn(run)


def signal_semaphore(run, semaphore):
    """The first process that waits becomes ready, or there is one signal more."""
    signals = semaphore.data
    if signals.waiting:
        strand = signals.waiting.pop(0)
        strand.waits_at = None
        run.ready.append(strand)
    else:
        signals.count += 1


def terminate_process(run, strand):
    """A process ends, whoever sends this; its Process is the answer."""
    if strand.gone:
        run.deliver(strand.thing)
    elif strand == run.going:
        leave(run, -1, "end", None)
    else:
        terminate_other(run, strand)


def terminate_other(run, strand):
    """A process that does not go on ends at once; its arguments that have not begun are worked by the one that does."""
    if strand in run.ready:
        run.ready.remove(strand)
    if strand.waits_at is not None:
        signals = strand.waits_at.data
        signals.waiting.remove(strand)
    guards = [act for act in reversed(strand.acts) if act.kind in ("ensure", "curtail") and not act.begun]
    if end_strand(strand):
        run.end_main(None)
    else:
        work_remains(run, Remains(strand, [guard.argument for guard in guards]))


def end_strand(strand):
    """A process has ended with all its activations; tells whether main is given up with them."""
    gives_up = any([gives_up_main(act) for act in strand.acts])
    strand.acts.clear()
    strand.block = None
    strand.waits_at = None
    strand.comes = None
    strand.gone = True
    return gives_up


def work_remains(run, remains):
    """Works the next argument of a process that was ended by the one that goes on."""
    if remains.blocks:
        act = run.work(remains.blocks.pop(0), (), "ended")
        act.held = remains
    elif remains.strand.number == 0:
        run.end_main(None)
    else:
        run.deliver(remains.strand.thing)
