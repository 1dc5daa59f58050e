"""What must be known now to know something next, and which letters are alike."""

from keptpartings.kept import led_blocks, put_goals_together
from keptpartings.partings import need_parting, numbered, single


def is_pair(machine, parting, other):
    """Whether each letter leads standings together in a parting to standings together in the other one."""
    need_parting(machine, parting)
    need_parting(machine, other)
    return led_blocks(machine[0], parting, other) is not None


def next_of(machine, parting):
    """The finest parting that is a pair behind a parting."""
    need_parting(machine, parting)
    return numbered(put_goals_together(machine[0], parting, single(machine)))


def goal_blocks(machine, parting):
    """For each standing the blocks of a parting that the letters lead it to."""
    need_parting(machine, parting)
    return [tuple([parting[goal] for goal in standing]) for standing in machine[0]]


def before(machine, parting):
    """The greatest parting that is a pair ahead of a parting."""
    return numbered(goal_blocks(machine, parting))


def letters_alike(machine, parting):
    """The number of a class for each letter; alike letters lead each standing to the same block."""
    led = goal_blocks(machine, parting)
    return numbered(list(zip(*led)))
