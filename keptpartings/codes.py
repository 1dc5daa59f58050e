"""Codes: bits that tell the standings apart, and on which bits each of them hangs."""

from keptpartings.errors import BadCode, BadNumber
from keptpartings.kept import led_blocks
from keptpartings.machines import is_number_below, is_tuple_of, need_machine
from keptpartings.partings import all_partings, common_meet, is_parting, single

MOST_BITS = 3


def is_code(machine, value):
    """Whether any value is a code of a machine."""
    need_machine(machine)
    if not is_tuple_of(value, 0, MOST_BITS):
        return False
    if not all([is_parting(machine, thing) and is_bit(thing) for thing in value]):
        return False
    return bits_meet(machine[0], value) == single(machine)


def is_bit(parting):
    """Whether a parting has two blocks."""
    return max(parting) == 1


def bits_meet(table, bits):
    """The meet of some bits, perhaps of none."""
    # The whole parting parts nothing, so it changes no meet, and it is that of no bits.
    return common_meet([(0,) * len(table), *bits])


def need_code(machine, code):
    """Refuses what is no code of a machine, and first what is no machine."""
    if not is_code(machine, code):
        raise BadCode(code)


def lots(machine, code):
    """For each bit of a code the least lot of bits on which it hangs."""
    need_code(machine, code)
    return tuple([least_lot(machine[0], code, bit) for bit in code])


def cost(machine, code):
    """How many numbers the lots of the bits of a code have, all together."""
    need_code(machine, code)
    return code_cost(machine[0], code)


def code_cost(table, code):
    """The cost of what is a code."""
    return sum([len(least_lot(table, code, bit)) for bit in code])


def least_lot(table, code, bit):
    """The least lot of the bits of a code on which a bit hangs."""
    lot = ()
    for lot in all_lots(len(code)):
        if hangs_on(table, code, bit, lot):
            break
    # On all bits each one hangs.
    return lot


def all_lots(many):
    """The ascending tuples of numbers of so many bits, those with fewer numbers first."""
    found = [()]
    for number in range(many):
        found = found + [(*lot, number) for lot in found]
    return sorted(found, key=lambda lot: (len(lot), lot))


def hangs_on(table, code, bit, lot):
    """Whether a bit hangs on a lot of the bits of a code."""
    known = bits_meet(table, [code[number] for number in lot])
    return led_blocks(table, known, bit) is not None


def hangs(machine, code, number, lot):
    """Whether the bit with a number hangs on a lot of the bits of a code."""
    need_code(machine, code)
    if not is_number_below(number, len(code)):
        raise BadNumber(number)
    if not is_lot(lot, len(code)):
        raise BadNumber(lot)
    return hangs_on(machine[0], code, code[number], lot)


def is_lot(value, many):
    """Whether any value is an ascending tuple of numbers of so many bits."""
    if not is_tuple_of(value, 0, many) or not all([is_number_below(thing, many) for thing in value]):
        return False
    return all([number < later for number, later in zip(value, value[1:])])


def best_code(machine):
    """The least of the codes that have as few bits as can be, and of these the least cost."""
    need_machine(machine)
    # Of codes with equal costs min takes the first one.
    return min(shortest_codes(machine), key=lambda code: code_cost(machine[0], code))


def shortest_codes(machine):
    """The codes with as few bits as can be, ascending, each with its bits ascending.

    Bits in another order cost as much and are greater, and of alike bits one could be left out.
    """
    many = len(machine[0])
    bits = [parting for parting in all_partings(machine) if is_bit(parting)]
    codes = [()]
    for left in reversed(range((many - 1).bit_length())):
        longer = [(*code, bit) for code in codes for bit in bits if code[-1:] < (bit,)]
        # Each of the bits that are left can halve what is together.
        codes = [code for code in longer if most_together(code) <= 1 << left]
    return codes


def most_together(bits):
    """How many standings the greatest block of the meet of some bits has."""
    places = list(zip(*bits))
    return max([places.count(place) for place in places])
