"""A live bench: a machine that is changed by deeds, which can be taken back."""

from keptpartings.errors import BadNumber, BadStanding, NothingLeft, TooGreat
from keptpartings.kept import kept_partings, led_rows
from keptpartings.machines import MOST_SHOWN, MOST_STANDINGS, is_number_below, need_machine, need_standing
from keptpartings.partings import need_parting

MOST_DEEDS = 400


def replaced(things, place, thing):
    """A tuple with another thing at one place."""
    return (*things[:place], thing, *things[place + 1:])


def need_shown_value(value):
    """Refuses what cannot be shown at a standing."""
    if not is_number_below(value, MOST_SHOWN + 1):
        raise BadNumber(value)


class Saved:
    """The steps of a bench when a trial began, and what the same trial saved ahead of this, or None."""

    def __init__(self, steps, ahead):
        self.steps = steps
        self.ahead = ahead


class Trial:
    """A manager that gives a bench, and has it as it was when the block ends."""

    def __init__(self, one):
        self._one = one
        self._saved = None

    def __enter__(self):
        # One trial may serve for blocks within one another, so what it saved for an outer one is kept.
        self._saved = Saved(self._one._steps, self._saved)
        return self._one

    def __exit__(self, kind, value, trace):
        self._one._steps = self._saved.steps
        self._saved = self._saved.ahead


class Bench:
    """A live bench."""

    def __init__(self, machine):
        self._begin = need_machine(machine)
        # Each step is a pair of a deed and the machine that it led to. Tuples alone stand here, and none is ever
        # changed, so copies and trials may hold the same ones.
        self._steps = ()

    @property
    def machine(self):
        """The machine as it is now."""
        return self._steps[-1][1] if self._steps else self._begin

    def lead(self, standing, letter, goal):
        """Sets where a letter leads from a standing."""
        table, shown = self.machine
        need_standing(self.machine, standing)
        if not is_number_below(letter, len(table[0])):
            raise BadNumber(letter)
        need_standing(self.machine, goal)
        goals = replaced(table[standing], letter, goal)
        self._done(("lead", standing, letter, goal), (replaced(table, standing, goals), shown))

    def show(self, standing, value):
        """Sets what is shown at a standing."""
        table, shown = self.machine
        need_standing(self.machine, standing)
        need_shown_value(value)
        self._done(("show", standing, value), (table, replaced(shown, standing, value)))

    def put(self, value):
        """Puts a standing that shows a value behind all others, led to itself by each letter."""
        table, shown = self.machine
        need_shown_value(value)
        if len(table) == MOST_STANDINGS:
            raise TooGreat(MOST_STANDINGS)
        goals = (len(table),) * len(table[0])
        self._done(("put", value), ((*table, goals), (*shown, value)))

    def take(self):
        """Takes the last standing."""
        table, shown = self.machine
        last = len(table) - 1
        if last == 0 or any([last in goals for goals in table[:-1]]):
            raise BadStanding(None)
        self._done(("take",), (table[:-1], shown[:-1]))

    def _done(self, deed, machine):
        """Adds a deed and the machine that it leads to; refuses a deed too many."""
        if len(self._steps) == MOST_DEEDS:
            raise TooGreat(MOST_DEEDS)
        self._steps = (*self._steps, (deed, machine))

    def kept(self):
        """All kept partings of the machine as it is now, ascending."""
        return kept_partings(self.machine)

    def is_kept(self, parting):
        """Whether a parting of the machine as it is now is kept."""
        need_parting(self.machine, parting)
        return led_rows(self.machine[0], parting) is not None

    def __len__(self):
        return len(self._steps)

    def undo(self):
        """Takes back the last deed."""
        if not self._steps:
            raise NothingLeft()
        self._steps = self._steps[:-1]

    def copy(self):
        """Another bench that stands as this one and goes on by itself."""
        other = Bench(self._begin)
        other._steps = self._steps
        return other

    def __eq__(self, other):
        return isinstance(other, Bench) and self._begin == other._begin and self._steps == other._steps

    def trial(self):
        """A manager of a block that gets the bench, and behind which the bench is as it was."""
        return Trial(self)


def under(manager, deed):
    """What a deed returns that is called with what a manager gives, in a with statement over it."""
    with manager as one:
        return deed(one)
