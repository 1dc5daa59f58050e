import inspect
import operator
import unittest
from contextlib import contextmanager, nullcontext, suppress
from copy import deepcopy

from keptpartings.bench import Bench, under
from keptpartings.errors import BadMachine, BadNumber, BadParting, BadStanding, NothingLeft, TooGreat
from keptpartings.kept import kept_partings
from tests.samples import (
    FOUR, ODD, ONE, SIX, Checks, bad_machines, great_machines, leading, plain_kept, showing, small_machines,
    staying, strewn, turning,
)

TWO = showing(leading((1, 0), (0, 1)), 3, 4)
DEEDS = ("lead", "show", "put", "take")


class Plain:
    """A bench by the words of the document, of lists; a deed that cannot be gives False."""

    def __init__(self, machine):
        self.table = [list(standing) for standing in machine[0]]
        self.shown = list(machine[1])
        self.past = []

    def machine(self):
        return (tuple(map(tuple, self.table)), tuple(self.shown))

    def do(self, name, *arguments):
        if len(self.past) >= 400:
            return False
        before = (deepcopy(self.table), list(self.shown))
        if not getattr(self, name)(*arguments):
            return False
        self.past.append(before)
        return True

    def lead(self, standing, letter, goal):
        self.table[standing][letter] = goal
        return True

    def show(self, standing, value):
        self.shown[standing] = value
        return True

    def put(self, value):
        if len(self.table) == 8:
            return False
        self.table.append([len(self.table)] * len(self.table[0]))
        self.shown.append(value)
        return True

    def take(self):
        last = len(self.table) - 1
        if last < 1 or any(last in standing for standing in self.table[:-1]):
            return False
        del self.table[-1], self.shown[-1]
        return True

    def undo(self):
        self.table, self.shown = self.past.pop()


def strewn_deeds(seed, many):
    """Numbers for so many deeds, always the same for the same seed."""
    for _ in range(many):
        numbers = []
        for _ in range(4):
            seed = (seed * 1103515245 + 12345) % 2 ** 31
            numbers.append(seed >> 16)
        yield numbers


def chosen(machine, numbers):
    """A deed that such numbers choose at a machine; where it leads or what it shows can be."""
    first, second, third, fourth = numbers
    many, letters = len(machine[0]), len(machine[0][0])
    name = DEEDS[first % 4]
    arguments = {
        "lead": (second % many, third % letters, fourth % many), "show": (second % many, third % 10),
        "put": (second % 10,), "take": (),
    }
    return name, arguments[name]


def filled(machine, many=400):
    """A bench at which so many deeds were done."""
    bench = Bench(machine)
    for at in range(many):
        bench.show(0, at % 10)
    return bench


class Keeps(Checks):
    def check_stands(self, bench, machine, many):
        """The bench has this machine and so many deeds."""
        self.check_same(bench.machine, machine)
        self.assertEqual(len(bench), many)

    def check_deed(self, bench, machine, name, /, **named):
        """The deed leads to this machine, by position and by name in any order, and returns None."""
        before, many = bench.machine, len(bench)
        backwards = dict(reversed(list(named.items())))
        for arguments, keywords in [((), named), (named.values(), {}), ((), backwards)]:
            self.assertIsNone(getattr(bench, name)(*arguments, **keywords))
            self.check_stands(bench, machine, many + 1)
            self.assertIsNone(bench.undo())
            self.check_stands(bench, before, many)
        getattr(bench, name)(**named)

    def check_not_done(self, error, field, value, bench, name, /, *arguments, **named):
        """The call is refused, and the bench is as it was."""
        before = bench.copy()
        self.check_refused(error, field, value, getattr(bench, name), *arguments, **named)
        self.assertTrue(bench == before)
        self.check_stands(bench, before.machine, len(before))


class Making(Keeps, unittest.TestCase):
    def test_it_has_the_machine(self):
        for machine in [*small_machines(), *great_machines()]:
            for bench in (Bench(machine), Bench(machine=machine)):
                self.check_stands(bench, machine, 0)
                self.check_same(bench.machine, bench.machine)

    def test_what_is_no_machine(self):
        for thing, place in bad_machines():
            self.check_refused(BadMachine, "place", place, Bench, thing)
            self.check_refused(BadMachine, "place", place, Bench, machine=thing)

    def test_the_names_of_the_interface_stand_in_the_class_itself(self):
        names = {
            "lead": ["standing", "letter", "goal"], "show": ["standing", "value"], "put": ["value"], "take": [],
            "kept": [], "is_kept": ["parting"], "undo": [], "copy": [], "trial": [], "__len__": [], "__eq__": ["other"],
            "__init__": ["machine"],
        }
        for name, wanted in names.items():
            self.assertEqual(list(inspect.signature(vars(Bench)[name]).parameters)[1:], wanted)
        self.assertIsInstance(vars(Bench)["machine"], property)
        self.assertEqual(list(inspect.signature(under).parameters), ["manager", "deed"])

    def test_the_machine_is_not_set(self):
        bench = Bench(FOUR)
        with self.assertRaises(AttributeError):
            bench.machine = SIX
        self.check_stands(bench, FOUR, 0)


class Lead(Keeps, unittest.TestCase):
    def test_by_hand(self):
        bench = Bench(TWO)
        self.check_deed(bench, (((1, 1), (0, 1)), (3, 4)), "lead", standing=0, letter=1, goal=1)
        self.check_deed(bench, (((1, 1), (1, 1)), (3, 4)), "lead", standing=1, letter=0, goal=1)
        self.check_deed(bench, (((0, 1), (1, 1)), (3, 4)), "lead", standing=0, letter=0, goal=0)
        self.check_stands(bench, (((0, 1), (1, 1)), (3, 4)), 3)
        self.check_deed(Bench(ONE), ONE, "lead", standing=0, letter=0, goal=0)

    def test_as_it_was(self):
        bench = Bench(TWO)
        self.check_deed(bench, TWO, "lead", standing=0, letter=0, goal=1)
        self.check_stands(bench, TWO, 1)

    def test_each_place(self):
        for machine in (SIX, strewn(8, 4, 3), ONE):
            table, shown = machine
            many = len(table)
            for standing, letter, goal in [(at // 3, at, at * 5) for at in range(40)]:
                standing, letter, goal = standing % many, letter % len(table[0]), goal % many
                bench = Bench(machine)
                bench.lead(standing, letter, goal)
                for at, by in [(at, by) for at in range(many) for by in range(len(table[0]))]:
                    told = goal if (at, by) == (standing, letter) else table[at][by]
                    self.assertEqual(bench.machine[0][at][by], told)
                self.check_same(bench.machine[1], shown)

    def test_wrong_arguments(self):
        bench = Bench(TWO)
        for wrong in ODD + [2, 8, (), (0,)]:
            self.check_not_done(BadStanding, "value", wrong, bench, "lead", wrong, 0, 0)
            self.check_not_done(BadNumber, "value", wrong, bench, "lead", 0, wrong, 0)
            self.check_not_done(BadStanding, "value", wrong, bench, "lead", 0, 0, wrong)
            self.check_not_done(BadStanding, "value", wrong, bench, "lead", goal=wrong, letter=1, standing=1)
        self.check_not_done(BadNumber, "value", 1, Bench(FOUR), "lead", 0, 1, 0)
        self.check_not_done(BadStanding, "value", 4, Bench(FOUR), "lead", 0, 0, 4)
        standing = ("standing", 0, [(2, BadStanding, "value", 2), (True, BadStanding, "value", True)])
        letter = ("letter", 1, [(2, BadNumber, "value", 2), (None, BadNumber, "value", None)])
        goal = ("goal", 1, [(2, BadStanding, "value", 2), ([1], BadStanding, "value", [1])])
        self.check_first_error(bench.lead, [standing, letter, goal])
        self.check_stands(bench, TWO, 0)


class Show(Keeps, unittest.TestCase):
    def test_by_hand(self):
        bench = Bench(TWO)
        self.check_deed(bench, (TWO[0], (3, 0)), "show", standing=1, value=0)
        self.check_deed(bench, (TWO[0], (9, 0)), "show", standing=0, value=9)
        self.check_deed(bench, (TWO[0], (9, 0)), "show", standing=0, value=9)
        self.check_stands(bench, (TWO[0], (9, 0)), 3)

    def test_wrong_arguments(self):
        bench = Bench(TWO)
        for wrong in ODD + [10, (), (0,)]:
            self.check_not_done(BadStanding, "value", wrong, bench, "show", wrong, 0)
            self.check_not_done(BadNumber, "value", wrong, bench, "show", 0, wrong)
            self.check_not_done(BadNumber, "value", wrong, bench, "show", value=wrong, standing=1)
        self.check_not_done(BadStanding, "value", 2, bench, "show", 2, 0)
        standing = ("standing", 0, [(2, BadStanding, "value", 2), (False, BadStanding, "value", False)])
        value = ("value", 1, [(10, BadNumber, "value", 10), (-1, BadNumber, "value", -1)])
        self.check_first_error(bench.show, [standing, value])


class Put(Keeps, unittest.TestCase):
    def test_by_hand(self):
        bench = Bench(TWO)
        self.check_deed(bench, (((1, 0), (0, 1), (2, 2)), (3, 4, 0)), "put", value=0)
        self.check_deed(bench, (((1, 0), (0, 1), (2, 2), (3, 3)), (3, 4, 0, 9)), "put", value=9)
        self.check_deed(Bench(ONE), (((0,), (1,)), (0, 7)), "put", value=7)

    def test_a_ninth_one(self):
        bench = Bench(staying(6, 2))
        bench.put(1)
        bench.put(2)
        self.check_stands(bench, showing(staying(8, 2), 0, 0, 0, 0, 0, 0, 1, 2), 2)
        for value in (0, 9):
            self.check_not_done(TooGreat, "most", 8, bench, "put", value)
        for wrong in ODD + [10, ()]:
            self.check_not_done(BadNumber, "value", wrong, bench, "put", wrong)
            self.check_not_done(BadNumber, "value", wrong, Bench(ONE), "put", value=wrong)
        bench.take()
        bench.put(5)
        self.check_stands(bench, showing(staying(8, 2), 0, 0, 0, 0, 0, 0, 1, 5), 4)


class Take(Keeps, unittest.TestCase):
    def test_by_hand(self):
        bench = Bench(showing(leading((0, 0), (0, 0), (1, 2)), 1, 2, 3))
        self.check_deed(bench, (((0, 0), (0, 0)), (1, 2)), "take")
        self.check_deed(bench, (((0, 0),), (1,)), "take")
        self.check_not_done(BadStanding, "value", None, bench, "take")
        self.check_stands(bench, (((0, 0),), (1,)), 2)

    def test_one_to_which_only_itself_leads(self):
        for last in [(2, 2), (0, 2), (2, 1), (0, 1)]:
            bench = Bench(leading((1, 0), (0, 1), last))
            bench.take()
            self.check_stands(bench, leading((1, 0), (0, 1)), 1)

    def test_one_to_which_another_one_leads(self):
        for standing in range(3):
            for letter in range(2):
                bench = Bench(staying(4, 2))
                bench.lead(standing, letter, 3)
                self.check_not_done(BadStanding, "value", None, bench, "take")
                bench.lead(standing, letter, 0)
                bench.take()
                self.assertEqual(len(bench.machine[0]), 3)
        for machine in (FOUR, SIX, turning(2), turning(8, 4)):
            self.check_not_done(BadStanding, "value", None, Bench(machine), "take")

    def test_of_one_standing_nothing_is_taken(self):
        for machine in (ONE, leading((0, 0, 0, 0))):
            self.check_not_done(BadStanding, "value", None, Bench(machine), "take")

    def test_what_was_put_can_be_taken(self):
        bench = Bench(FOUR)
        bench.put(3)
        bench.take()
        self.check_stands(bench, FOUR, 2)
        bench.put(3)
        bench.lead(0, 0, 4)
        self.check_not_done(BadStanding, "value", None, bench, "take")


class ManyDeeds(Keeps, unittest.TestCase):
    def test_the_401st_deed_of_each_kind(self):
        for machine in (showing(staying(3), 1, 2, 3), showing(staying(3, 4), 1, 2, 3)):
            bench = filled(machine)
            self.assertEqual(len(bench), 400)
            deeds = [("lead", (0, 0, 0)), ("show", (0, 0)), ("put", (0,)), ("take", ())]
            for name, arguments in deeds:
                self.check_not_done(TooGreat, "most", 400, bench, name, *arguments)
            for name, arguments in deeds:
                bench.undo()
                self.assertEqual(len(bench), 399)
                getattr(bench, name)(*arguments)
                self.assertEqual(len(bench), 400)
                self.check_not_done(TooGreat, "most", 400, bench, name, *arguments)

    def test_other_exceptions_go_before(self):
        bench = filled(TWO)
        self.check_not_done(BadStanding, "value", 2, bench, "lead", 2, 2, 2)
        self.check_not_done(BadNumber, "value", 2, bench, "lead", 0, 2, 2)
        self.check_not_done(BadStanding, "value", 2, bench, "lead", 0, 0, 2)
        self.check_not_done(BadStanding, "value", 2, bench, "show", 2, 10)
        self.check_not_done(BadNumber, "value", 10, bench, "show", 0, 10)
        self.check_not_done(BadNumber, "value", 10, bench, "put", 10)
        self.check_not_done(BadStanding, "value", None, bench, "take")
        self.check_not_done(BadNumber, "value", True, filled(staying(8)), "put", True)
        self.check_not_done(TooGreat, "most", 8, filled(staying(8)), "put", 1)
        self.check_not_done(BadStanding, "value", None, filled(ONE), "take")

    def test_all_of_them_are_taken_back(self):
        bench = filled(SIX)
        for many in range(400, 0, -1):
            self.assertEqual(len(bench), many)
            bench.undo()
        self.check_stands(bench, SIX, 0)
        self.assertRaises(NothingLeft, bench.undo)


class Kept(Keeps, unittest.TestCase):
    def test_after_each_deed(self):
        bench = Bench(SIX)
        for numbers in strewn_deeds(5, 60):
            name, arguments = chosen(bench.machine, numbers)
            with suppress(BadStanding, TooGreat):
                getattr(bench, name)(*arguments)
            told = bench.kept()
            self.check_same(told, plain_kept(bench.machine))
            self.check_same(bench.kept(), told)
            for parting in told[:5]:
                self.check_same(bench.is_kept(parting), True)
                self.check_same(bench.is_kept(parting=parting), True)

    def test_by_hand(self):
        bench = Bench(FOUR)
        self.check_same(bench.kept(), kept_partings(FOUR))
        self.check_same(bench.is_kept((0, 1, 0, 1)), True)
        self.check_same(bench.is_kept((0, 0, 1, 1)), False)
        bench.lead(3, 0, 3)
        self.check_same(bench.is_kept((0, 1, 0, 1)), False)
        self.check_same(bench.is_kept((0, 0, 0, 1)), False)
        self.check_same(bench.is_kept((0, 1, 2, 2)), True)
        self.assertEqual(len(bench), 1)

    def test_what_is_no_parting(self):
        bench = Bench(FOUR)
        for wrong in ODD + [0, (), (0, 0, 0), (0, 0, 0, 2), (1, 0, 0, 0), [0, 1, 0, 1], (0, True, 0, 1)]:
            self.check_not_done(BadParting, "value", wrong, bench, "is_kept", wrong)
            self.check_not_done(BadParting, "value", wrong, bench, "is_kept", parting=wrong)
        bench.put(0)
        self.check_not_done(BadParting, "value", (0, 1, 0, 1), bench, "is_kept", (0, 1, 0, 1))
        self.check_same(bench.is_kept((0, 1, 0, 1, 2)), True)

    def test_what_was_told_does_not_change(self):
        bench = Bench(FOUR)
        machine, kept = bench.machine, bench.kept()
        bench.lead(0, 0, 0)
        bench.put(1)
        bench.show(0, 9)
        self.check_same(machine, FOUR)
        self.check_same(kept, kept_partings(FOUR))


class Undo(Keeps, unittest.TestCase):
    def test_back_to_the_beginning(self):
        bench = Bench(TWO)
        passed = [bench.machine]
        for name, arguments in [("put", (1,)), ("lead", (0, 0, 2)), ("show", (2, 7)), ("lead", (0, 0, 0)), ("take", ())]:
            getattr(bench, name)(*arguments)
            passed.append(bench.machine)
        while len(bench):
            self.check_stands(bench, passed[len(bench)], len(bench))
            self.assertIsNone(bench.undo())
        self.check_stands(bench, TWO, 0)
        for _ in range(2):
            self.assertRaises(NothingLeft, bench.undo)
            self.check_stands(bench, TWO, 0)

    def test_nothing_left_is_told_by_this_very_class(self):
        with self.assertRaises(NothingLeft) as caught:
            Bench(ONE).undo()
        self.assertIs(caught.exception.__class__, NothingLeft)

    def test_deeds_and_undo_in_turn(self):
        for seed, machine in enumerate([SIX, ONE, TWO, strewn(8, 3, 4), staying(7, 2), turning(5, 4)]):
            bench, plain = Bench(machine), Plain(machine)
            for numbers in strewn_deeds(seed + 1, 150):
                if numbers[0] % 7 == 0 and plain.past:
                    bench.undo()
                    plain.undo()
                else:
                    name, arguments = chosen(plain.machine(), [number // 7 for number in numbers])
                    if plain.do(name, *arguments):
                        self.assertIsNone(getattr(bench, name)(*arguments))
                    else:
                        self.assertRaises((BadStanding, TooGreat), getattr(bench, name), *arguments)
                self.check_stands(bench, plain.machine(), len(plain.past))
            while plain.past:
                bench.undo()
                plain.undo()
                self.check_stands(bench, plain.machine(), len(plain.past))


class Copy(Keeps, unittest.TestCase):
    def test_it_goes_on_by_itself(self):
        bench = Bench(FOUR)
        bench.put(1)
        bench.lead(0, 0, 4)
        other = bench.copy()
        self.assertIsNot(other, bench)
        self.check_stands(other, bench.machine, 2)
        self.assertTrue(bench == other)
        machine = bench.machine
        other.show(0, 9)
        self.check_stands(bench, machine, 2)
        self.check_stands(other, showing(machine, 9, *machine[1][1:]), 3)
        self.assertFalse(bench == other)
        bench.undo()
        self.check_stands(other, showing(machine, 9, *machine[1][1:]), 3)

    def test_it_can_be_taken_back_as_far(self):
        bench = Bench(FOUR)
        bench.put(1)
        bench.lead(0, 0, 4)
        other = bench.copy()
        for _ in range(2):
            other.undo()
        self.check_stands(other, FOUR, 0)
        self.assertRaises(NothingLeft, other.undo)
        self.assertEqual(len(bench), 2)
        self.assertEqual(len(Bench(SIX).copy()), 0)

    def test_a_copy_may_not_do_more(self):
        other = filled(SIX).copy()
        self.check_not_done(TooGreat, "most", 400, other, "show", 0, 0)

    def test_within_a_trial(self):
        bench = Bench(FOUR)
        bench.put(1)
        with bench.trial():
            bench.put(2)
            other = bench.copy()
            bench.put(3)
        self.check_stands(bench, (((1,), (2,), (3,), (0,), (4,)), (0, 0, 0, 1, 1)), 1)
        self.check_stands(other, (((1,), (2,), (3,), (0,), (4,), (5,)), (0, 0, 0, 1, 1, 2)), 2)


class Claims:
    """A value that says that it is equal to any other one."""

    def __eq__(self, other):
        return True


class Equal(Keeps, unittest.TestCase):
    def check_equal(self, one, other, told):
        self.assertIs(one == other, told)
        self.assertIs(other == one, told)
        self.assertIs(one != other, not told)
        self.assertIs(other != one, not told)

    def test_the_same_deeds_from_the_same_beginning(self):
        one, other = Bench(FOUR), Bench(deepcopy(FOUR))
        self.check_equal(one, other, True)
        self.check_equal(one, one, True)
        for name, arguments in [("put", (1,)), ("lead", (0, 0, 4)), ("show", (2, 7)), ("lead", (0, 0, 0)), ("take", ())]:
            getattr(one, name)(*arguments)
            self.check_equal(one, other, False)
            getattr(other, name)(*arguments)
            self.check_equal(one, other, True)
        one.undo()
        self.check_equal(one, other, False)
        one.take()
        self.check_equal(one, other, True)

    def test_the_same_machine_by_other_deeds(self):
        one, other = Bench(FOUR), Bench(FOUR)
        one.show(0, 0)
        self.check_equal(one, other, False)
        other.lead(0, 0, 1)
        self.assertEqual(one.machine, other.machine)
        self.check_equal(one, other, False)
        one.lead(0, 0, 1)
        other.show(0, 0)
        self.check_equal(one, other, False)
        turned = Bench(FOUR)
        turned.show(0, 5)
        turned.show(1, 5)
        back = Bench(FOUR)
        back.show(1, 5)
        back.show(0, 5)
        self.assertEqual(turned.machine, back.machine)
        self.check_equal(turned, back, False)

    def test_the_same_machine_from_another_one(self):
        one, other = Bench(FOUR), Bench(showing(FOUR, 0, 0, 0, 2))
        self.check_equal(one, other, False)
        one.show(3, 5)
        other.show(3, 5)
        self.assertEqual(one.machine, other.machine)
        self.check_equal(one, other, False)
        later = Bench(one.machine)
        self.check_equal(one, later, False)

    def test_what_was_taken_back_does_not_count(self):
        one, other = Bench(FOUR), Bench(FOUR)
        one.put(3)
        one.undo()
        self.check_equal(one, other, True)
        with one.trial():
            one.put(3)
            self.check_equal(one, other, False)
        self.check_equal(one, other, True)

    def test_other_values(self):
        bench = Bench(FOUR)
        for value in ODD + [FOUR, FOUR[0], 0, 1, Bench]:
            self.check_equal(bench, value, False)
        self.assertIs(bench == Claims(), False)
        self.assertIs(bench != Claims(), True)

    def test_other_operators(self):
        signs = [
            operator.lt, operator.le, operator.gt, operator.ge, operator.add, operator.sub, operator.mul,
            operator.floordiv, operator.truediv, operator.mod, operator.pow, operator.and_, operator.or_, operator.xor,
            operator.lshift, operator.rshift, operator.matmul,
        ]
        bench = Bench(FOUR)
        for value in [0, 1, "a", None, FOUR, (), [], {}, {0}, Bench(FOUR), bench, True]:
            for sign in signs:
                if sign is not operator.mod or not isinstance(value, str):
                    self.assertRaises(TypeError, sign, bench, value)
                    self.assertRaises(TypeError, sign, value, bench)
        for sign in (operator.neg, operator.pos, operator.invert, abs):
            self.assertRaises(TypeError, sign, bench)
        self.assertRaises(TypeError, operator.contains, bench, 0)
        self.check_stands(bench, FOUR, 0)


class Odd(Exception):
    """An exception that the package knows nothing of."""


class Trials(Keeps, unittest.TestCase):
    def test_the_block_gets_the_very_bench(self):
        bench = Bench(FOUR)
        with bench.trial() as same:
            self.assertIs(same, bench)

    def test_it_is_as_it_was(self):
        bench = Bench(FOUR)
        bench.put(1)
        before = bench.copy()
        with bench.trial() as same:
            same.put(2)
            bench.lead(0, 0, 5)
            self.assertEqual(len(bench), 3)
        self.check_stands(bench, before.machine, 1)
        self.assertTrue(bench == before)
        bench.undo()
        self.check_stands(bench, FOUR, 0)
        self.assertRaises(NothingLeft, bench.undo)

    def test_an_exception_passes(self):
        bench = Bench(FOUR)
        bench.put(1)
        before = bench.copy()
        for error in (Odd("out"), KeyboardInterrupt(), TooGreat(8), NothingLeft()):
            with self.assertRaises(error.__class__) as caught:
                with bench.trial():
                    bench.put(2)
                    raise error
            self.assertIs(caught.exception, error)
            self.assertTrue(bench == before)
        with self.assertRaises(BadStanding):
            with bench.trial():
                bench.lead(0, 0, 4)
                bench.take()
        self.assertTrue(bench == before)

    def test_left_by_return_and_by_break(self):
        bench = Bench(FOUR)

        def leave():
            with bench.trial() as same:
                same.put(1)
                return len(same)

        self.assertEqual(leave(), 1)
        self.check_stands(bench, FOUR, 0)
        for _ in range(2):
            with bench.trial():
                bench.put(1)
                break
        self.check_stands(bench, FOUR, 0)

    def test_within_one_another(self):
        bench = Bench(FOUR)
        with bench.trial():
            bench.put(1)
            middle = bench.copy()
            with bench.trial() as same:
                self.assertIs(same, bench)
                bench.put(2)
                with self.assertRaises(Odd):
                    with bench.trial():
                        bench.undo()
                        bench.undo()
                        raise Odd()
                self.assertEqual(len(bench), 2)
            self.assertTrue(bench == middle)
            bench.put(3)
            self.assertEqual(len(bench), 2)
        self.check_stands(bench, FOUR, 0)

    def test_undo_beyond_where_it_began(self):
        bench = Bench(FOUR)
        for value in range(3):
            bench.put(value)
        before = bench.copy()
        with bench.trial():
            for _ in range(3):
                bench.undo()
            self.check_stands(bench, FOUR, 0)
            self.assertRaises(NothingLeft, bench.undo)
            bench.show(0, 8)
        self.assertTrue(bench == before)
        for many in (2, 1, 0):
            bench.undo()
            self.assertEqual(len(bench), many)
        self.check_stands(bench, FOUR, 0)

    def test_deeds_in_trials_are_counted(self):
        bench = filled(FOUR, 399)
        for _ in range(3):
            with bench.trial():
                bench.show(0, 1)
                self.check_not_done(TooGreat, "most", 400, bench, "show", 0, 1)
        self.assertEqual(len(bench), 399)

    def test_it_begins_with_the_block(self):
        bench = Bench(FOUR)
        manager = bench.trial()
        bench.put(1)
        before = bench.copy()
        with manager:
            bench.put(2)
        self.assertTrue(bench == before)
        bench.put(3)
        after = bench.copy()
        with manager as same:
            self.assertIs(same, bench)
            bench.put(4)
            with manager:
                bench.undo()
                bench.undo()
            self.assertEqual(len(bench), 3)
        self.assertTrue(bench == after)

    def test_a_trial_that_is_not_begun_does_nothing(self):
        bench = Bench(FOUR)
        bench.trial()
        bench.put(1)
        self.assertEqual(len(bench), 1)

    def test_trials_of_several_benches(self):
        one, other = Bench(FOUR), Bench(SIX)
        with one.trial(), other.trial():
            one.put(1)
            other.put(1)
        self.check_stands(one, FOUR, 0)
        self.check_stands(other, SIX, 0)
        with one.trial():
            other.show(0, 1)
        self.assertEqual((len(one), len(other)), (0, 1))


class Keeping:
    """A manager that notes what happens to it, and may keep exceptions back."""

    def __init__(self, given, keeps):
        self.given = given
        self.keeps = keeps
        self.notes = []

    def __enter__(self):
        self.notes.append("in")
        return self.given

    def __exit__(self, kind, value, trace):
        self.notes.append(kind)
        return self.keeps


class Under(Keeps, unittest.TestCase):
    def test_what_the_deed_returns(self):
        bench = Bench(FOUR)
        self.assertEqual(under(bench.trial(), lambda one: one.put(3)), None)
        self.assertEqual(under(bench.trial(), lambda one: (one.put(3), len(one), one.machine[1])), (None, 1, (0, 0, 0, 1, 3)))
        self.assertIs(under(bench.trial(), lambda one: one), bench)
        self.assertIs(under(deed=lambda one: one, manager=bench.trial()), bench)
        self.check_stands(bench, FOUR, 0)

    def test_managers_of_other_kinds(self):
        given = object()
        manager = Keeping(given, False)
        self.assertIs(under(manager, lambda one: one), given)
        self.assertEqual(manager.notes, ["in", None])
        self.assertEqual(under(nullcontext(5), lambda one: one + 1), 6)
        self.assertEqual(under(nullcontext(), lambda one: [one]), [None])

        @contextmanager
        def lending():
            notes.append("lent")
            try:
                yield 7
            finally:
                notes.append("back")

        notes = []
        self.assertEqual(under(lending(), lambda one: notes.append(one) or "told"), "told")
        self.assertEqual(notes, ["lent", 7, "back"])

    def test_the_deed_is_called_once_within_the_block(self):
        manager = Keeping(1, True)
        under(manager, lambda one: manager.notes.append(one))
        self.assertEqual(manager.notes, ["in", 1, None])

    def test_an_exception_passes(self):
        def fail(one):
            one.put(1)
            raise Odd()

        bench = Bench(FOUR)
        self.assertRaises(Odd, under, bench.trial(), fail)
        self.check_stands(bench, FOUR, 0)
        manager = Keeping(bench, False)
        self.assertRaises(Odd, under, manager, fail)
        self.assertEqual(manager.notes, ["in", Odd])
        self.assertEqual(len(bench), 1)

    def test_an_exception_that_is_kept_back(self):
        def fail(one):
            raise Odd()

        manager = Keeping(None, True)
        self.assertIsNone(under(manager, fail))
        self.assertEqual(manager.notes, ["in", Odd])
        self.assertIsNone(under(suppress(Odd), fail))
        self.assertRaises(Odd, under, suppress(KeyError), fail)

    def test_trials_within_one_another(self):
        bench = Bench(FOUR)

        def deed(one):
            one.put(1)
            return under(one.trial(), lambda same: (same.put(2), len(same))[1]), len(one)

        self.assertEqual(under(bench.trial(), deed), (2, 1))
        self.check_stands(bench, FOUR, 0)
