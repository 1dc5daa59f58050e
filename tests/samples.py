"""Machines, odd values and checks that the tests share."""

from copy import deepcopy
from itertools import product

SIX = (((1,), (2,), (3,), (4,), (5,), (0,)), (0, 0, 0, 0, 0, 1))
FOUR = (((1,), (2,), (3,), (0,)), (0, 0, 0, 1))
ONE = (((0,),), (0,))


class Thing:
    """A value of a kind that the package knows nothing of."""


# Values of every kind; none is a pair, a number of a standing, a word, a parting.
ODD = [
    None, True, False, -1, 400, 10 ** 999, -(10 ** 999), "", "0", "01", "text\n", b"", b"\x00", b"\x00\x01",
    [], [0], [0, 0], [[0], [0]], {}, {0: 0}, {"a": [1]}, set(), {0}, frozenset({0}), range(1), range(2),
    Thing, Thing(), len, ((((),),),), (None,), ("0",), (b"0",), ([0],), (-1,), (True,), (False,), ({},),
]


def turning(standings, letters=1):
    """A machine in which each letter leads a number of standings on."""
    table = tuple(tuple((at + step) % standings for step in range(1, letters + 1)) for at in range(standings))
    return (table, tuple(at % 10 for at in range(standings)))


def bad_machines():
    """Things that are no machines, each with the place that is told."""
    goals, shown = FOUR
    things = [(thing, ()) for thing in ODD]
    things += [((), ()), ((goals,), ()), ((goals, shown, ()), ()), ([goals, shown], ())]
    things += [((table, shown), (0,)) for table in ODD if not isinstance(table, tuple)]
    things += [(((), shown), (0,)), (((), ()), (0,)), ((((0,),) * 9, (0,) * 9), (0,)), ((list(goals), shown), (0,))]
    for at in range(4):
        for wrong in [thing for thing in ODD if not isinstance(thing, tuple)] + [(), (0,) * 5, (0, 0), [0]]:
            # Where the first one is of another length, it is the second one that is found at fault.
            found = 1 if wrong == (0, 0) and at == 0 else at
            things.append(((goals[:at] + (wrong,) + goals[at + 1:], shown), (0, found)))
        for wrong in ODD + [4, (), (0,), [0]]:
            things.append(((goals[:at] + ((wrong,),) + goals[at + 1:], shown), (0, at, 0)))
        for wrong in [thing for thing in ODD if thing is not None] + [None, 10, (), (0,), [0]]:
            things.append(((goals, shown[:at] + (wrong,) + shown[at + 1:]), (1, at)))
    things += [((goals, wrong), (1,)) for wrong in ODD + [(), (0,) * 3, (0,) * 5, list(shown)]]
    return things


class Checks:
    """Checks for a unittest.TestCase."""

    def check_refused(self, error, field, value, call, /, *arguments, **named):
        """The call raises just this error, with this very value in its field."""
        with self.assertRaises(error) as caught:
            call(*arguments, **named)
        self.assertIs(caught.exception.__class__, error)
        self.check_same(getattr(caught.exception, field), value)

    def check_same(self, told, value):
        """They are equal, and True and 1 are not taken as equal."""
        self.assertEqual(told, value)
        self.assertEqual(repr(told), repr(value))

    def check_call(self, result, call, /, **named):
        """The call gives the result each time, by position and by name in any order, and changes nothing."""
        before = deepcopy(named)
        backwards = dict(reversed(list(named.items())))
        for told in (call(**named), call(*named.values()), call(**backwards), call(**deepcopy(named))):
            self.check_same(told, result)
        self.check_same(named, before)

    def check_first_error(self, call, arguments):
        """Of several wrong arguments the first one's exception is raised.

        arguments has for each one its name, a valid value, and wrong ones with the error, field and value told.
        """
        choices = [[(valid, None)] + [(wrong, told) for wrong, *told in wrongs] for _, valid, wrongs in arguments]
        for chosen in product(*choices):
            errors = [told for _, told in chosen if told]
            if errors:
                named = {name: value for (name, _, _), (value, _) in zip(arguments, chosen)}
                error, field, value = errors[0]
                self.check_refused(error, field, value, call, **named)
                self.check_refused(error, field, value, call, *named.values())
