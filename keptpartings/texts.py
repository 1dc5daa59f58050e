"""Machines, partings and rows as texts, and machines and partings read from texts."""

from keptpartings.errors import BadRow, BadText
from keptpartings.machines import need_machine
from keptpartings.partings import need_parting
from keptpartings.rows import is_row


def spaced(numbers):
    """Numbers as words, with a space between."""
    return " ".join([str(number) for number in numbers])


def machine_text(machine):
    """The text of a machine."""
    need_machine(machine)
    table, shown = machine
    return "\n".join([spaced([value, *goals]) for value, goals in zip(shown, table)])


def parting_text(machine, parting):
    """The text of a parting."""
    need_parting(machine, parting)
    return spaced(parting)


def row_text(machine, row):
    """The text of a row."""
    if not is_row(machine, row):
        raise BadRow(row)
    front, rear, places = row
    lines = [f"front {spaced(goals)}" for goals in front]
    for standing in rear:
        letters = [spaced(goals) for goals in standing]
        lines.append("rear " + " / ".join(letters))
    lines += [f"at {spaced(place)}" for place in places]
    return "\n".join(lines)


def is_figure(word):
    """Whether a string is one figure."""
    return len(word) == 1 and "0" <= word <= "9"


def read_lines(text):
    """For each line of a text the list of its words."""
    if not isinstance(text, str):
        raise BadText(None, None)
    return [line.split(" ") for line in text.split("\n")]


def read_figures(words, line, least):
    """The numbers of the words of a line, if they are figures and as many as is asked at least."""
    for place, word in enumerate(words):
        if not is_figure(word):
            raise BadText(line, place)
    if len(words) < least:
        raise BadText(line, len(words))
    return tuple([int(word) for word in words])


def read_machine(text):
    """The machine that a text tells."""
    standings = [read_figures(words, line, 2) for line, words in enumerate(read_lines(text))]
    table = tuple([numbers[1:] for numbers in standings])
    return need_machine((table, tuple([numbers[0] for numbers in standings])))


def read_parting(machine, text):
    """The parting of a machine that a text tells."""
    need_machine(machine)
    lines = read_lines(text)
    parting = read_figures(lines[0], 0, 1)
    if len(lines) > 1:
        raise BadText(1, 0)
    need_parting(machine, parting)
    return parting
