"""Machines, and where a word leads."""

from keptpartings.errors import BadMachine, BadStanding, BadWord

MOST_STANDINGS = 8
MOST_LETTERS = 4
MOST_SHOWN = 9
LONGEST_WORD = 400


def is_number_below(thing, many):
    """Whether any value is an integer from 0 to many - 1."""
    # isinstance takes True and False for integers; the document does not.
    return isinstance(thing, int) and not isinstance(thing, bool) and 0 <= thing < many


def is_tuple_of(thing, least, most):
    """Whether any value is a tuple of least to most things."""
    return isinstance(thing, tuple) and least <= len(thing) <= most


def are_numbers_below(thing, limits):
    """Whether any value is a tuple with a number below each of the limits, in their order."""
    if not is_tuple_of(thing, len(limits), len(limits)):
        return False
    return all([is_number_below(number, limit) for number, limit in zip(thing, limits)])


def is_table(thing, letters):
    """Whether any value is a table with so many letters."""
    if not is_tuple_of(thing, 1, MOST_STANDINGS):
        return False
    return all([are_numbers_below(standing, [len(thing)] * letters) for standing in thing])


def need_machine(thing):
    """The thing itself, if it is a machine."""
    if not is_tuple_of(thing, 2, 2):
        raise BadMachine(())
    table, shown = thing
    need_table_form(table)
    need_goals(table)
    need_shown(shown, len(table))
    return thing


def need_table_form(table):
    """Refuses what is no tuple of standings with equally many letters."""
    if not is_tuple_of(table, 1, MOST_STANDINGS):
        raise BadMachine((0,))
    for number, standing in enumerate(table):
        if not is_tuple_of(standing, 1, MOST_LETTERS) or len(standing) != len(table[0]):
            raise BadMachine((0, number))


def need_goals(table):
    """Refuses a letter that leads to what is no standing."""
    for number, standing in enumerate(table):
        for letter, goal in enumerate(standing):
            if not is_number_below(goal, len(table)):
                raise BadMachine((0, number, letter))


def need_shown(shown, many):
    """Refuses what does not show one figure for each of many standings."""
    if not is_tuple_of(shown, many, many):
        raise BadMachine((1,))
    for number, thing in enumerate(shown):
        if not is_number_below(thing, MOST_SHOWN + 1):
            raise BadMachine((1, number))


def need_standing(machine, standing):
    """Refuses what is no number of a standing of a machine."""
    if not is_number_below(standing, len(machine[0])):
        raise BadStanding(standing)


def is_word(machine, thing):
    """Whether any value is a word of a machine."""
    letters = len(machine[0][0])
    return is_tuple_of(thing, 0, LONGEST_WORD) and are_numbers_below(thing, [letters] * len(thing))


def need_word(machine, word):
    """Refuses what is no word of a machine."""
    if not is_tuple_of(word, 0, LONGEST_WORD):
        raise BadWord(None)
    for place, letter in enumerate(word):
        if not is_number_below(letter, len(machine[0][0])):
            raise BadWord(place)


def run(machine, standing, word):
    """The standings that a word comes to, from the one where it begins."""
    need_machine(machine)
    need_standing(machine, standing)
    need_word(machine, word)
    table = machine[0]
    passed = [standing]
    for letter in word:
        passed.append(table[passed[-1]][letter])
    return tuple(passed)
