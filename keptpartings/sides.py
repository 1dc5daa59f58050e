"""Machines side by side that know nothing of one another, and papers on whether there are such ones."""

from keptpartings.errors import Alone, BadNumber, BadPaper, BadRow
from keptpartings.kept import chain, drawn, is_chain, is_kept_parting, led_table
from keptpartings.machines import are_numbers_below, is_table, is_tuple_of, need_machine
from keptpartings.partings import common_meet, meet, numbered, single
from keptpartings.rows import are_places

MOST_SIDES = 4


def sides_of(machine, partings):
    """Sides with the led tables of kept partings that have the single one as their meet."""
    if not part_all(machine, partings):
        raise BadNumber(partings)
    tables = tuple([led_table(machine, parting) for parting in partings])
    return (tables, tuple(zip(*partings)))


def part_all(machine, value):
    """Whether any value is a tuple of one to four kept partings that have the single one as their meet."""
    need_machine(machine)
    if not is_tuple_of(value, 1, MOST_SIDES):
        return False
    if not all([is_kept_parting(machine, thing) for thing in value]):
        return False
    return common_meet(value) == single(machine)


def are_sides(machine, value):
    """Whether any value is sides of a machine."""
    need_machine(machine)
    if not is_tuple_of(value, 2, 2):
        return False
    tables, places = value
    goals = machine[0]
    if not is_tuple_of(tables, 1, MOST_SIDES):
        return False
    if not all([is_table(table, len(goals[0])) for table in tables]):
        return False
    if not are_places(places, len(goals), [len(table) for table in tables]):
        return False
    numbers = list(zip(*places))
    return all([leads_alike(goals, table, column) for table, column in zip(tables, numbers)])


def leads_alike(goals, table, numbers):
    """Whether a table leads the numbers that standings have in it as the standings themselves are led."""
    for standing, number in zip(goals, numbers):
        if table[number] != tuple([numbers[goal] for goal in standing]):
            return False
    return True


def side_partings(machine, sides):
    """For each table of sides the parting that has together what has the same number there."""
    if not are_sides(machine, sides):
        raise BadRow(sides)
    _, places = sides
    return tuple([numbered(numbers) for numbers in zip(*places)])


def need_more_than_one(machine):
    """Refuses what is no machine, and a machine with one standing."""
    need_machine(machine)
    if len(machine[0]) == 1:
        raise Alone()


def each_two(machine):
    """The pairs of numbers of two standings, the lower one first, ascending."""
    many = len(machine[0])
    return [(one, far) for one in range(many) for far in range(one + 1, many)]


def finest_drawn(machine):
    """The finest kept partings for any two standings, ascending.

    Each kept parting but the single one has two standings together, so one of these is finer than it.
    """
    return sorted({drawn(machine, one, far) for one, far in each_two(machine)})


def splitting_two(machine):
    """Two kept partings that split a machine, or None."""
    finest = finest_drawn(machine)
    none_together = single(machine)
    for parting in finest:
        for other in finest:
            if meet(machine, parting, other) == none_together:
                return (parting, other)
    return None


def is_split(machine):
    """Whether a machine of two standings or more is split."""
    need_more_than_one(machine)
    return splitting_two(machine) is not None


def split_paper(machine):
    """A paper that shows that a machine is split, or that it is bound."""
    need_more_than_one(machine)
    found = splitting_two(machine)
    if found is not None:
        return ("split", *found)
    goal = bound_two(machine)
    return ("bound", *goal, tuple([(pair, chain(machine, pair, goal)) for pair in each_two(machine)]))


def bound_two(machine):
    """The least two standings that are together in each kept parting but the single one, of a machine not split."""
    common = common_meet(finest_drawn(machine))
    return [(one, far) for one, far in each_two(machine) if common[one] == common[far]][0]


def check_split(machine, paper):
    """The first word of a paper that holds."""
    need_more_than_one(machine)
    if is_paper(paper, "split", 3):
        if not shows_split(machine, paper):
            raise BadPaper("split")
        return "split"
    if is_paper(paper, "bound", 4):
        if not shows_bound(machine, paper):
            raise BadPaper("bound")
        return "bound"
    raise BadPaper("form")


def is_paper(value, word, many):
    """Whether any value is a tuple of so many things with a word as the first one."""
    return is_tuple_of(value, many, many) and isinstance(value[0], str) and value[0] == word


def shows_split(machine, paper):
    """Whether a paper that says so shows that a machine is split."""
    partings = paper[1:]
    return part_all(machine, partings) and single(machine) not in partings


def shows_bound(machine, paper):
    """Whether a paper that says so shows that a machine is bound."""
    _, low, high, chains = paper
    pairs = each_two(machine)
    many = len(machine[0])
    if not are_numbers_below((low, high), (many, many)) or low >= high:
        return False
    if not is_tuple_of(chains, len(pairs), len(pairs)):
        return False
    for pair, entry in zip(pairs, chains):
        if not is_tuple_of(entry, 2, 2) or not are_numbers_below(entry[0], (many, many)) or entry[0] != pair:
            return False
        if not is_chain(machine, pair, (low, high), entry[1]):
            return False
    return True
