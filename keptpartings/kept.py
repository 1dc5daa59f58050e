"""The partings of a machine that are kept by all letters, and chains that show what they must have together."""

from keptpartings.errors import BadNumber, BadParting
from keptpartings.machines import are_numbers_below, is_tuple_of, is_word, need_machine, need_standing, run
from keptpartings.partings import all_partings, is_parting, need_parting, numbered, put_together, single
from keptpartings.ways import pair_words, shortest_ways


def led_blocks(table, parting, other):
    """For each block of a parting the blocks of another one that the letters lead it to; None if they tear it."""
    rows = {}
    for standing, block in enumerate(parting):
        row = tuple([other[goal] for goal in table[standing]])
        if rows.setdefault(block, row) != row:
            return None
    # Blocks are numbered as they come, so the rows have come in the order of their numbers.
    return tuple(rows.values())


def led_rows(table, parting):
    """Where the letters lead from each block of a parting; None if the parting is not kept."""
    return led_blocks(table, parting, parting)


def put_goals_together(table, parting, names):
    """Names for standings that give one name to all that a letter leads to from standings of one block."""
    for standing, block in enumerate(parting):
        for goal, first_goal in zip(table[standing], table[parting.index(block)]):
            names = put_together(names, goal, first_goal)
    return names


def closed(table, parting):
    """The finest kept parting than which a parting is finer."""
    while led_rows(table, parting) is None:
        parting = numbered(put_goals_together(table, parting, parting))
    return parting


def is_kept(machine, parting):
    """Whether a parting is kept."""
    need_parting(machine, parting)
    return led_rows(machine[0], parting) is not None


def drawn(machine, one, far):
    """The finest kept parting in which two standings are together."""
    need_machine(machine)
    need_standing(machine, one)
    need_standing(machine, far)
    return closed(machine[0], numbered(put_together(single(machine), one, far)))


def least_kept(machine, parting):
    """The finest kept parting than which a parting is finer."""
    need_parting(machine, parting)
    return closed(machine[0], parting)


def kept_partings(machine):
    """All kept partings of a machine, ascending."""
    return tuple([parting for parting in all_partings(machine) if led_rows(machine[0], parting) is not None])


def is_kept_parting(machine, value):
    """Whether any value is a kept parting."""
    return is_parting(machine, value) and led_rows(machine[0], value) is not None


def need_kept(machine, parting):
    """Refuses what is no kept parting of a machine, and first what is no machine."""
    if not is_kept_parting(machine, parting):
        raise BadParting(parting)


def led_table(machine, parting):
    """The table that has the blocks of a kept parting as its standings."""
    need_kept(machine, parting)
    return led_rows(machine[0], parting)


def need_two(machine, value):
    """Refuses what is no pair of numbers of standings."""
    many = len(machine[0])
    if not are_numbers_below(value, (many, many)):
        raise BadNumber(value)


def chain(machine, pair, goal):
    """A chain with as few links as can be from the one of goal to the other one by the two of pair, or None."""
    need_machine(machine)
    need_two(machine, pair)
    need_two(machine, goal)
    words = pair_words(machine[0], *pair)

    def links(begin):
        there = [(one, far, word) for (one, far), word in words.items() if one == begin]
        back = [(far, one, word) for (one, far), word in words.items() if far == begin]
        return [(link, link[1]) for link in there + back]

    return shortest_ways(goal[0], links).get(goal[1])


def is_chain(machine, pair, goal, value):
    """Whether any value is a chain from the one of goal to the other one by the two of pair."""
    need_machine(machine)
    need_two(machine, pair)
    need_two(machine, goal)
    if not isinstance(value, tuple):
        return False
    reached = goal[0]
    for link in value:
        if not is_link(machine, pair, link) or link[0] != reached:
            return False
        reached = link[1]
    return reached == goal[1]


def is_link(machine, pair, value):
    """Whether any value is a link of the two of pair."""
    if not is_tuple_of(value, 3, 3):
        return False
    begin, end, word = value
    many = len(machine[0])
    if not are_numbers_below((begin, end), (many, many)) or not is_word(machine, word):
        return False
    one, far = pair
    led = (run(machine, one, word)[-1], run(machine, far, word)[-1])
    return led in ((begin, end), (end, begin))
