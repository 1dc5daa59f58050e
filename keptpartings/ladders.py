"""Longer rows, as ladders of kept partings, and papers on how small their greatest machine can be."""

from keptpartings.errors import BadNumber, BadPaper, TooGreat
from keptpartings.kept import is_kept_parting, kept_partings
from keptpartings.machines import is_tuple_of, need_machine
from keptpartings.partings import is_within, single, whole
from keptpartings.ways import shortest_ways

MOST_KEPT = 300


def needs(machine, ladder):
    """The needs of the steps of a ladder."""
    if not is_ladder(machine, ladder):
        raise BadNumber(ladder)
    return step_needs(ladder)


def is_ladder(machine, value):
    """Whether any value is a ladder of a machine."""
    need_machine(machine)
    # Each step has a block more at least, so there are no more partings than standings.
    if not is_tuple_of(value, 1, len(machine[0])):
        return False
    if not all([is_kept_parting(machine, thing) for thing in value]):
        return False
    if value[0] != whole(machine) or value[-1] != single(machine):
        return False
    return all([wide != fine and is_within(fine, wide) for wide, fine in zip(value, value[1:])])


def step_needs(ladder):
    """The needs of the steps of what is a ladder."""
    return tuple([step_need(wide, fine) for wide, fine in zip(ladder, ladder[1:])])


def step_need(wide, fine):
    """The greatest number of blocks of a parting within one block of one than which it is finer."""
    pairs = sorted({(block, inner) for block, inner in zip(wide, fine)})
    torn = [block for block, _ in pairs]
    return max([torn.count(block) for block in torn])


def few_kept(machine):
    """The kept partings of a machine, ascending; refuses a machine that has too many of them."""
    kept = kept_partings(machine)
    if len(kept) > MOST_KEPT:
        raise TooGreat(MOST_KEPT)
    return kept


def longest_ladder(machine):
    """The least of the ladders that have as many partings as can be."""
    kept = few_kept(machine)
    # A finer parting is the greater tuple, so the ladders from all finer ones are known when a parting comes.
    ladders = {}
    for wide in reversed(kept):
        ends = [ladders[fine] for fine in ladders if is_within(fine, wide)]
        end = min(ends, key=lambda ladder: (-len(ladder), ladder), default=())
        ladders[wide] = (wide, *end)
    return ladders[kept[0]]


def steps_down(kept, wide, most):
    """Those of kept partings that are finer than one of them and have at most so many blocks within each block of it.

    It is itself among them.
    """
    return [fine for fine in kept if is_within(fine, wide) and step_need(wide, fine) <= most]


def ways_down(kept, most):
    """For each of kept partings to which there are steps from the whole one with no need above most, these steps."""

    def steps(wide):
        return [(fine, fine) for fine in steps_down(kept, wide, most)]

    return shortest_ways(kept[0], steps)


def least_need(kept):
    """The least number such that a ladder of kept partings has no need above it."""
    most = 1
    while kept[-1] not in ways_down(kept, most):
        most += 1
    return most


def width(machine):
    """The least number such that a ladder has no need above it; 1 of a machine with one standing."""
    return least_need(few_kept(machine))


def width_paper(machine):
    """A ladder with no need above the width, and the partings to which steps with lesser needs lead."""
    kept = few_kept(machine)
    most = least_need(kept)
    ladder = (kept[0], *ways_down(kept, most)[kept[-1]])
    # There is no step with a need below 2, so a paper says nothing of them.
    stuck = sorted(ways_down(kept, most - 1)) if most > 2 else []
    return (ladder, tuple(stuck))


def check_width(machine, paper):
    """The width, by a paper that holds."""
    kept = few_kept(machine)
    if not is_tuple_of(paper, 2, 2):
        raise BadPaper("form")
    ladder, stuck = paper
    if not is_ladder(machine, ladder):
        raise BadPaper("ladder")
    most = max([1, *step_needs(ladder)])
    if not is_stuck(machine, kept, most, stuck):
        raise BadPaper("stuck")
    return most


def is_stuck(machine, kept, most, value):
    """Whether any value shows that no ladder of the kept partings of a machine has all its needs below most."""
    if most <= 2:
        return is_tuple_of(value, 0, 0)
    if not is_tuple_of(value, 1, len(kept)):
        return False
    if not all([is_kept_parting(machine, thing) for thing in value]):
        return False
    if not all([parting < later for parting, later in zip(value, value[1:])]):
        return False
    if kept[0] not in value or kept[-1] in value:
        return False
    return all([fine in value for wide in value for fine in steps_down(kept, wide, most - 1)])
