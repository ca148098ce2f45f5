"""The commands of a stepper that are in force, and how one comes back to where it stood ahead of one of them."""

from imagetalk.counts import MOST_SENDS
from imagetalk.engine import Machine
from imagetalk.stepping import restart_act
from imagetalk.twins import twin

# A run is kept behind so many codes or commands, so that no way back is long.
CODES_APART = 2000
COMMANDS_APART = 50


def twin_of(run):
    """A run that stands where this one stands."""
    return twin(run, Machine(run.stock, MOST_SENDS, True))


class History:
    """Commands, how many codes were done ahead of each, and some runs as they were behind so many commands."""

    def __init__(self, run):
        self.commands = []
        self.counts = []
        self.kept = [(0, twin_of(run))]

    def put_command(self, command, count, run):
        """A command has been worked that began behind so many codes."""
        self.commands.append(command)
        self.counts.append(count)
        many, newest = self.kept[-1]
        if run.done - newest.done > CODES_APART or len(self.commands) - many > COMMANDS_APART:
            self.kept.append((len(self.commands), twin_of(run)))

    def drop_last(self):
        """Takes the last command away, and returns a run that stands as it was ahead of it."""
        self.commands.pop()
        return self.run_at(self.counts.pop())

    def run_at(self, count):
        """A run that stands behind all commands, with so many codes done."""
        while self.kept[-1][0] > len(self.commands):
            self.kept.pop()
        first, newest = self.kept[-1]
        run = twin_of(newest)
        counts = [*self.counts, count]
        for number in range(first, len(self.commands)):
            command = self.commands[number]
            if command[0] == "restart":
                restart_act(run, command[1])
            else:
                run.go(counts[number + 1] - run.done)
        return run
