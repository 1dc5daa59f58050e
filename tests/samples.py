"""Machines, odd values, plain trials and checks that the tests share."""

from copy import deepcopy
from functools import lru_cache
from itertools import product

from keptpartings.partings import all_partings

SIX = (((1,), (2,), (3,), (4,), (5,), (0,)), (0, 0, 0, 0, 0, 1))
FOUR = (((1,), (2,), (3,), (0,)), (0, 0, 0, 1))
ONE = (((0,),), (0,))


class Thing:
    """A value of a kind that the package knows nothing of."""


# Values of every kind; none is a pair, a number of a standing, a word, a parting.
ODD = [
    None, True, False, -1, 400, 10 ** 999, -(10 ** 999), "", "0", "01", "text\n", b"", b"\x00", b"\x00\x01",
    [], [0], [0, 0], [[0], [0]], {}, {0: 0}, {"a": [1]}, set(), {0}, frozenset({0}), range(1), range(2),
    Thing, Thing(), len, ((((),),),), (None,), ("0",), (b"0",), ([0],), (-1,), (True,), (False,), ({},),
]


def turning(standings, letters=1):
    """A machine in which each letter leads a number of standings on."""
    table = tuple(tuple((at + step) % standings for step in range(1, letters + 1)) for at in range(standings))
    return (table, tuple(at % 10 for at in range(standings)))


def leading(*standings):
    """A machine whose standings are led so; it shows 0 everywhere."""
    return (standings, (0,) * len(standings))


def resetting(standings, letters=1):
    """A machine in which each letter leads all standings to a single one."""
    return leading(*[tuple(letter % standings for letter in range(letters))] * standings)


def staying(standings, letters=1):
    """A machine in which each letter leads each standing to itself."""
    return leading(*[(at,) * letters for at in range(standings)])


def showing(machine, *shown):
    """The machine with other figures that are shown."""
    return (machine[0], shown)


def beside(machine, other):
    """The machine made of two with as many letters, side by side."""
    many = len(other[0])
    return leading(*[
        tuple(one * many + far for one, far in zip(standing, other_standing))
        for standing in machine[0] for other_standing in other[0]
    ])


def strewn(standings, letters, seed):
    """A machine whose letters lead anywhere, always the same for the same seed."""
    numbers = []
    for _ in range(standings * letters):
        seed = (seed * 1103515245 + 12345) % 2 ** 31
        numbers.append((seed >> 16) % standings)
    return leading(*[tuple(numbers[at * letters:(at + 1) * letters]) for at in range(standings)])


def all_machines(standings, letters):
    """Each machine with so many standings and letters that shows 0 everywhere."""
    goals = list(product(range(standings), repeat=letters))
    return [leading(*table) for table in product(goals, repeat=standings)]


@lru_cache(maxsize=None)
def small_machines():
    """Machines of all kinds, none with more than six standings."""
    machines = [SIX, FOUR, ONE, leading((0, 0, 0, 0))]
    for standings, letters in ((1, 2), (2, 1), (2, 2), (3, 1)):
        machines += all_machines(standings, letters)
    machines += all_machines(4, 1)[::7] + all_machines(3, 2)[::23]
    for standings in (2, 3, 4, 5):
        for letters in (1, 2, 4):
            machines += [make(standings, letters) for make in (turning, resetting, staying)]
    machines += [beside(turning(2), turning(2)), beside(turning(2), resetting(2)), beside(turning(2), turning(3))]
    machines += [beside(turning(2, 2), resetting(3, 2)), beside(resetting(2, 2), staying(2, 2))]
    machines += [strewn(4 + seed % 3, 1 + seed % 4, seed) for seed in range(24)]
    return tuple(machines)


@lru_cache(maxsize=None)
def great_machines():
    """Machines with seven or eight standings."""
    machines = [turning(8), turning(7, 4), turning(8, 4), resetting(8, 4), staying(8), strewn(8, 1, 2), strewn(8, 2, 7)]
    machines += [beside(turning(2), turning(4)), beside(beside(turning(2), turning(2)), turning(2))]
    machines += [leading(*[(max(at - 1, 0),) for at in range(8)]), leading(*[((at * 2) % 8, at // 2) for at in range(8)])]
    return tuple(machines)


def together(parting):
    """The pairs of standings that are together, found from the numbers alone."""
    places = range(len(parting))
    return {(one, far) for one in places for far in places if parting[one] == parting[far]}


@lru_cache(maxsize=None)
def plain_kept(machine):
    """The kept partings, found by a trial of all partings by the words of the document."""
    table, _ = machine
    return tuple(
        parting for parting in all_partings(machine)
        if all(parting[goal] == parting[led] for one, far in together(parting)
               for goal, led in zip(table[one], table[far]))
    )


def spots(value):
    """Each place in tuples within tuples: the numbers of the items on the way there."""
    found = [()]
    if isinstance(value, tuple):
        found += [(at, *rest) for at, item in enumerate(value) for rest in spots(item)]
    return found


def at_spot(value, spot):
    for at in spot:
        value = value[at]
    return value


def changed(value, spot, thing):
    """The value with another thing at a place."""
    if not spot:
        return thing
    at, *rest = spot
    return (*value[:at], changed(value[at], rest, thing), *value[at + 1:])


def misshapen(value):
    """The value with one thing at one place that is of a kind, or out of bounds, such as can stand nowhere."""
    for spot in spots(value):
        there = at_spot(value, spot)
        wrongs = ODD + [8, 9]
        if isinstance(there, tuple):
            wrongs.append(list(there))
        elif there in (0, 1):
            wrongs.append(bool(there))
        for wrong in wrongs:
            yield changed(value, spot, wrong)


def otherwise(value):
    """The value, tuples of numbers, with another number at one place, or with an item more or less in one tuple."""
    for spot in spots(value):
        there = at_spot(value, spot)
        if isinstance(there, tuple):
            others = [there[:at] + there[at + 1:] for at in range(len(there))]
            others += [there[:at] + there[at:at + 1] + there[at:] for at in range(len(there))]
        else:
            others = [number for number in range(8) if number != there]
        for other in others:
            yield changed(value, spot, other)


def bad_machines():
    """Things that are no machines, each with the place that is told."""
    goals, shown = FOUR
    things = [(thing, ()) for thing in ODD]
    things += [((), ()), ((goals,), ()), ((goals, shown, ()), ()), ([goals, shown], ())]
    things += [((table, shown), (0,)) for table in ODD if not isinstance(table, tuple)]
    things += [(((), shown), (0,)), (((), ()), (0,)), ((((0,),) * 9, (0,) * 9), (0,)), ((list(goals), shown), (0,))]
    for at in range(4):
        for wrong in [thing for thing in ODD if not isinstance(thing, tuple)] + [(), (0,) * 5, (0, 0), [0]]:
            # Where the first one is of another length, it is the second one that is found at fault.
            found = 1 if wrong == (0, 0) and at == 0 else at
            things.append(((goals[:at] + (wrong,) + goals[at + 1:], shown), (0, found)))
        for wrong in ODD + [4, (), (0,), [0]]:
            things.append(((goals[:at] + ((wrong,),) + goals[at + 1:], shown), (0, at, 0)))
        for wrong in [thing for thing in ODD if thing is not None] + [None, 10, (), (0,), [0]]:
            things.append(((goals, shown[:at] + (wrong,) + shown[at + 1:]), (1, at)))
    things += [((goals, wrong), (1,)) for wrong in ODD + [(), (0,) * 3, (0,) * 5, list(shown)]]
    return things


class Checks:
    """Checks for a unittest.TestCase."""

    def check_refused(self, error, field, value, call, /, *arguments, **named):
        """The call raises just this error, with this very value in its field."""
        with self.assertRaises(error) as caught:
            call(*arguments, **named)
        self.assertIs(caught.exception.__class__, error)
        self.check_same(getattr(caught.exception, field), value)

    def check_same(self, told, value):
        """They are equal, and True and 1 are not taken as equal."""
        self.assertEqual(told, value)
        self.assertEqual(repr(told), repr(value))

    def check_call(self, result, call, /, **named):
        """The call gives the result each time, by position and by name in any order, and changes nothing."""
        before = deepcopy(named)
        backwards = dict(reversed(list(named.items())))
        for told in (call(**named), call(*named.values()), call(**backwards), call(**deepcopy(named))):
            self.check_same(told, result)
        self.check_same(named, before)

    def check_first_error(self, call, arguments):
        """Of several wrong arguments the first one's exception is raised.

        arguments has for each one its name, a valid value, and wrong ones with the error, field and value told.
        """
        choices = [[(valid, None)] + [(wrong, told) for wrong, *told in wrongs] for _, valid, wrongs in arguments]
        for chosen in product(*choices):
            errors = [told for _, told in chosen if told]
            if errors:
                named = {name: value for (name, _, _), (value, _) in zip(arguments, chosen)}
                error, field, value = errors[0]
                self.check_refused(error, field, value, call, **named)
                self.check_refused(error, field, value, call, *named.values())
