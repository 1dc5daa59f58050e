"""Rows of two machines, of which the rear one sees where the front one stands."""

from keptpartings.errors import BadRow
from keptpartings.kept import led_table, need_kept
from keptpartings.machines import MOST_STANDINGS, are_numbers_below, is_table, is_tuple_of, need_machine
from keptpartings.partings import blocks, numbered


def row_of(machine, parting):
    """A row with a kept parting as its front parting, and with as small a rear as can be."""
    front = led_table(machine, parting)
    places = [(block, parting[:standing].count(block)) for standing, block in enumerate(parting)]
    goals = [[places[goal][1] for goal in standing] for standing in machine[0]]
    members = blocks(machine, parting)
    rear = [rear_standing(goals, members, number) for number in range(least_rear(machine, parting))]
    return (front, tuple(rear), tuple(places))


def rear_standing(goals, members, number):
    """Where the standing of a rear that has a number in each block is led, by each letter from each block.

    goals has for each standing of the machine the numbers in the rear to which the letters lead.
    """
    # A block with fewer standings has nothing at this number, and is as well led to 0 as to any other one.
    nowhere = [0] * len(goals[0])
    led = [goals[standings[number]] if number < len(standings) else nowhere for standings in members]
    return tuple(zip(*led))


def is_row(machine, value):
    """Whether any value is a row of a machine."""
    need_machine(machine)
    if not is_tuple_of(value, 3, 3):
        return False
    front, rear, places = value
    table = machine[0]
    letters = len(table[0])
    if not is_table(front, letters) or not is_rear(rear, letters, len(front)):
        return False
    if not are_places(places, len(table), (len(front), len(rear))):
        return False
    for standing, (block, number) in zip(table, places):
        for letter, goal in enumerate(standing):
            if places[goal] != (front[block][letter], rear[number][letter][block]):
                return False
    return True


def is_rear(value, letters, fronts):
    """Whether any value has the form of a rear behind a front of so many standings."""
    if not is_tuple_of(value, 1, MOST_STANDINGS):
        return False
    for standing in value:
        if not is_tuple_of(standing, letters, letters):
            return False
        if not all([are_numbers_below(goals, [len(value)] * fronts) for goals in standing]):
            return False
    return True


def are_places(value, many, limits):
    """Whether any value is a tuple of so many tuples of numbers below the limits, no two of them alike."""
    if not is_tuple_of(value, many, many):
        return False
    if not all([are_numbers_below(place, limits) for place in value]):
        return False
    return len(set(value)) == many


def front_parting(machine, row):
    """The parting that has together what a row has at the same standing of its front."""
    if not is_row(machine, row):
        raise BadRow(row)
    return numbered([block for block, _ in row[2]])


def least_rear(machine, parting):
    """The least number of standings of a rear behind a kept parting."""
    need_kept(machine, parting)
    return max([len(standings) for standings in blocks(machine, parting)])
