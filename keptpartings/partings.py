"""The partings of the standings of a machine."""

from keptpartings.errors import BadParting
from keptpartings.machines import is_number_below, is_tuple_of, need_machine


def is_parting(machine, value):
    """Whether any value is a parting of a machine."""
    need_machine(machine)
    if not is_tuple_of(value, len(machine[0]), len(machine[0])):
        return False
    begun = 0
    for block in value:
        # A block has the number of one that has begun, or else the next one.
        if not is_number_below(block, begun + 1):
            return False
        begun = max(begun, block + 1)
    return True


def need_parting(machine, value):
    """Refuses what is no parting of a machine, and first what is no machine."""
    if not is_parting(machine, value):
        raise BadParting(value)


def numbered(names):
    """For each of a list of names its number, in the order in which they first come."""
    numbers = {}
    for name in names:
        if name not in numbers:
            numbers[name] = len(numbers)
    return tuple([numbers[name] for name in names])


def put_together(names, one, far):
    """Names for standings that give all that was named as either of two standings one name."""
    return [names[one] if name == names[far] else name for name in names]


def common_meet(partings):
    """The meet of one parting or more."""
    return numbered(list(zip(*partings)))


def is_within(parting, other):
    """Whether a parting is finer than another one."""
    # It is exactly if the other one parts nothing more.
    return common_meet([parting, other]) == parting


def single(machine):
    """The parting that has each standing by itself."""
    need_machine(machine)
    return tuple(range(len(machine[0])))


def whole(machine):
    """The parting that has all standings together."""
    need_machine(machine)
    return (0,) * len(machine[0])


def blocks(machine, parting):
    """The standings of each block of a parting."""
    need_parting(machine, parting)
    members = [[] for _ in range(max(parting) + 1)]
    for standing, block in enumerate(parting):
        members[block].append(standing)
    return tuple([tuple(standings) for standings in members])


def is_finer(machine, parting, other):
    """Whether what is together in a parting is together in the other, too."""
    need_parting(machine, parting)
    need_parting(machine, other)
    return is_within(parting, other)


def meet(machine, parting, other):
    """The parting that has together what is so in both partings."""
    need_parting(machine, parting)
    need_parting(machine, other)
    return common_meet([parting, other])


def join(machine, parting, other):
    """The finest parting than which both partings are finer."""
    need_parting(machine, parting)
    need_parting(machine, other)
    names = list(parting)
    for standing, block in enumerate(other):
        # The first standing of a block of the other one lends its name to the whole block.
        names = put_together(names, other.index(block), standing)
    return numbered(names)


def all_partings(machine):
    """All partings of a machine, ascending."""
    need_machine(machine)
    begun = [()]
    for _ in machine[0]:
        begun = [(*parting, block) for parting in begun for block in range(len(set(parting)) + 1)]
    return tuple(begun)
