"""What is shown: which standings cannot be told apart by it, and words that tell the others apart."""

from keptpartings.kept import is_kept, led_table
from keptpartings.knowing import before
from keptpartings.machines import need_machine, need_standing
from keptpartings.partings import blocks, is_within, meet, need_parting, numbered
from keptpartings.ways import pair_words


def tells(machine, parting):
    """Whether standings that are together in a parting show the same."""
    need_parting(machine, parting)
    return is_within(parting, numbered(machine[1]))


def alike(machine):
    """The parting that has together what no word parts."""
    need_machine(machine)
    parting = numbered(machine[1])
    while not is_kept(machine, parting):
        parting = meet(machine, parting, before(machine, parting))
    return parting


def parting_word(machine, one, far):
    """The least of the shortest words that lead two standings to ones that show unlike things, or None."""
    need_machine(machine)
    need_standing(machine, one)
    need_standing(machine, far)
    table, shown = machine
    words = pair_words(table, one, far)
    found = [word for (low, high), word in words.items() if shown[low] != shown[high]]
    return min(found, key=lambda word: (len(word), word), default=None)


def least_machine(machine):
    """The machine that has the blocks of alike standings as its standings, led and shown as these are."""
    parting = alike(machine)
    shown = [machine[1][standings[0]] for standings in blocks(machine, parting)]
    return (led_table(machine, parting), tuple(shown))
