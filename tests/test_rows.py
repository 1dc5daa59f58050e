import unittest
from itertools import permutations, product

from keptpartings.errors import BadMachine, BadParting, BadRow
from keptpartings.kept import is_kept, kept_partings, led_table
from keptpartings.partings import all_partings
from keptpartings.rows import front_parting, is_row, least_rear, row_of
from tests.samples import (
    FOUR, ODD, ONE, SIX, Checks, bad_machines, beside, great_machines, leading, misshapen, otherwise, plain_kept,
    resetting, small_machines, strewn, turning,
)

FOUR_ROW = (((1,), (0,)), (((0, 1),), ((1, 0),)), ((0, 0), (1, 0), (0, 1), (1, 1)))


def holds(machine, value):
    """Whether tuples within tuples of numbers are a row, by the words of the document."""
    table, _ = machine
    letters = range(len(table[0]))
    if len(value) != 3:
        return False
    front, rear, places = value
    if not 1 <= len(front) <= 8 or not 1 <= len(rear) <= 8 or len(places) != len(table):
        return False
    if any(len(led) != len(letters) or not set(led) <= set(range(len(front))) for led in front):
        return False
    for led in rear:
        if len(led) != len(letters):
            return False
        if any(len(goals) != len(front) or not set(goals) <= set(range(len(rear))) for goals in led):
            return False
    if any(len(place) != 2 or place[0] >= len(front) or place[1] >= len(rear) for place in places):
        return False
    if len(set(places)) < len(places):
        return False
    return all(
        places[table[at][letter]] == (front[block][letter], rear[number][letter][block])
        for at, (block, number) in enumerate(places) for letter in letters
    )


def renumbered(row, fronts, rears):
    """The row with other numbers: fronts for the standings of the front, rears behind each of them for the rear."""
    front, rear, places = row
    letters = range(len(front[0]))
    new_front = [None] * len(front)
    new_rear = [[[None] * len(front) for _ in letters] for _ in rear]
    for block, number in product(range(len(front)), range(len(rear))):
        new_front[fronts[block]] = tuple(fronts[goal] for goal in front[block])
        for letter in letters:
            led = rears[front[block][letter]][rear[number][letter][block]]
            new_rear[rears[block][number]][letter][fronts[block]] = led
    new_places = tuple((fronts[block], rears[block][number]) for block, number in places)
    return (tuple(new_front), tuple(tuple(map(tuple, led)) for led in new_rear), new_places)


def all_rows():
    """Small machines with each kept parting and the row that is told of it."""
    for machine in small_machines():
        for parting in plain_kept(machine):
            yield machine, parting, row_of(machine, parting)


class RowOf(Checks, unittest.TestCase):
    def test_by_hand(self):
        # Which numbers the rear has is not told, only that equal calls give equal rows.
        found = row_of(FOUR, (0, 1, 0, 1))
        self.check_call(found, row_of, machine=FOUR, parting=(0, 1, 0, 1))
        self.assertEqual((found[0], len(found[1])), (((1,), (0,)), 2))
        self.check_call((((0,),), (((0,),),), ((0, 0),)), row_of, machine=ONE, parting=(0,))
        whole_row = (((0,),), (((1,),), ((2,),), ((3,),), ((0,),)), ((0, 0), (0, 1), (0, 2), (0, 3)))
        self.assertIs(is_row(FOUR, whole_row), True)
        found = row_of(FOUR, (0, 0, 0, 0))
        self.assertEqual((found[0], len(found[1])), (((0,),), 4))
        found = row_of(FOUR, (0, 1, 2, 3))
        self.assertEqual((found[0], found[1]), (FOUR[0], (((0, 0, 0, 0),),)))

    def test_a_row_with_the_led_table_and_as_small_a_rear_as_can_be(self):
        machines = [(machine, plain_kept(machine)) for machine in small_machines()]
        machines += [(machine, plain_kept(machine)[::60]) for machine in great_machines()]
        for machine, partings in machines:
            for parting in partings:
                with self.subTest(machine=machine, parting=parting):
                    found = row_of(machine, parting)
                    self.assertTrue(holds(machine, found))
                    self.assertIs(is_row(machine, found), True)
                    self.assertEqual(found[0], led_table(machine, parting))
                    self.assertEqual(len(found[1]), max(parting.count(block) for block in parting))
                    self.assertEqual(front_parting(machine, found), parting)

    def test_each_row_has_a_kept_front_parting(self):
        machine = beside(turning(2), resetting(2))
        numbers = list(product(range(2), repeat=2))
        found = set()
        # All rows that have two standings in front and two behind.
        for front, rear in product(product(range(2), repeat=2), product(product(range(2), repeat=2), repeat=2)):
            for places in permutations(numbers):
                row = (tuple((goal,) for goal in front), tuple((led,) for led in rear), places)
                self.assertEqual(is_row(machine, row), holds(machine, row))
                if holds(machine, row):
                    parting = front_parting(machine, row)
                    self.assertIs(is_kept(machine, parting), True)
                    found.add(parting)
        self.assertEqual(found, {one for one in kept_partings(machine) if one.count(0) == one.count(1) == 2})


class LeastRear(Checks, unittest.TestCase):
    def test_by_hand(self):
        self.check_call(2, least_rear, machine=FOUR, parting=(0, 1, 0, 1))
        self.check_call(4, least_rear, machine=FOUR, parting=(0, 0, 0, 0))
        self.check_call(1, least_rear, machine=FOUR, parting=(0, 1, 2, 3))
        self.check_call(3, least_rear, machine=SIX, parting=(0, 1, 0, 1, 0, 1))
        self.check_call(1, least_rear, machine=ONE, parting=(0,))
        self.check_call(8, least_rear, machine=turning(8, 4), parting=(0,) * 8)
        self.check_call(5, least_rear, machine=resetting(7, 1), parting=(0, 1, 1, 2, 1, 1, 1))

    def test_a_trial_of_all_numbers_behind(self):
        for machine in small_machines():
            many = len(machine[0])
            if many > 4:
                continue
            for parting in plain_kept(machine):
                least = min(
                    behind for behind in range(1, many + 1)
                    for numbers in product(range(behind), repeat=many)
                    if len(set(zip(parting, numbers))) == many
                )
                self.assertEqual(least_rear(machine, parting), least)
                self.assertEqual(len(row_of(machine, parting)[1]), least)


class IsRow(Checks, unittest.TestCase):
    machines = [FOUR, ONE, turning(3, 2), beside(turning(2), turning(3)), leading((1, 0), (1, 2), (1, 2)), strewn(5, 3, 4)]

    def told(self):
        for machine in self.machines:
            for parting in plain_kept(machine):
                yield machine, row_of(machine, parting)

    def test_by_hand(self):
        front, rear, places = FOUR_ROW
        self.check_call(True, is_row, machine=FOUR, value=FOUR_ROW)
        self.check_call(False, is_row, machine=FOUR, value=(((1,), (1,)), rear, places))
        self.check_call(False, is_row, machine=FOUR, value=(front, (((1, 1),), ((1, 0),)), places))
        self.check_call(False, is_row, machine=FOUR, value=(front, rear, places[::-1]))
        self.check_call(False, is_row, machine=FOUR, value=[front, rear, places])
        self.check_call(False, is_row, machine=SIX, value=FOUR_ROW)

    def test_no_two_are_alike_in_a_map(self):
        machine = leading((0,), (1,))
        for places in product([(0, 0), (0, 1)], repeat=2):
            row = (((0,),), (((0,),), ((1,),)), places)
            self.assertIs(is_row(machine, row), places[0] != places[1])
        machine = resetting(2)
        self.assertIs(is_row(machine, (((0,),), (((0,),),), ((0, 0), (0, 0)))), False)

    def test_rows_with_other_numbers(self):
        for machine, parting, row in all_rows():
            fronts, behind = len(row[0]), len(row[1])
            for turn in range(max(fronts, behind)):
                numbers = [(at + turn) % fronts for at in range(fronts)]
                rears = [[(at + turn * block) % behind for at in range(behind)] for block in range(fronts)]
                other = renumbered(row, numbers, rears)
                self.assertTrue(holds(machine, other))
                self.assertIs(is_row(machine, other), True)
                self.assertEqual(front_parting(machine, other), parting)

    def test_standings_of_the_rear_that_nobody_has(self):
        for machine, parting, (front, rear, places) in all_rows():
            letters = len(machine[0][0])
            for more in range(1, 9 - len(rear)):
                idle = (((len(rear) + more - 1,) * len(front),) * letters,) * more
                self.check_row(True, machine, (front, rear + idle, places), parting)
            idle = (((0,) * len(front),) * letters,) * (9 - len(rear))
            self.check_row(False, machine, (front, rear + idle, places))
            idle = ((len(rear) + 1,) * len(front),) * letters
            self.check_row(False, machine, (front, (*rear, idle), places))

    def test_standings_of_the_front_that_nobody_has(self):
        for machine, parting, (front, rear, places) in all_rows():
            letters = len(machine[0][0])
            for more in range(1, 10 - len(front)):
                idle = ((len(front) + more - 1,) * letters,) * more
                seen = tuple(tuple(goals + (0,) * more for goals in led) for led in rear)
                self.check_row(len(front) + more <= 8, machine, (front + idle, seen, places), parting)
            self.check_row(False, machine, (front + ((0,) * letters,), rear, places))
            if len(front) < 8:
                # A number that no standing of the front has, where nobody is ever led by it.
                seen = tuple(tuple(goals + (0,) for goals in led) for led in rear)
                beyond = front + ((0,) * (letters - 1) + (len(front) + 1,),)
                self.check_row(False, machine, (beyond, seen, places))

    def check_row(self, expected, machine, row, parting=None):
        self.assertEqual(holds(machine, row), expected)
        self.assertIs(is_row(machine, row), expected)
        if expected:
            self.assertEqual(front_parting(machine, row), parting)
        else:
            self.check_refused(BadRow, "value", row, front_parting, machine, row)

    def test_one_thing_otherwise_at_each_depth(self):
        for machine, row in self.told():
            for other in otherwise(row):
                self.assertIs(is_row(machine, other), holds(machine, other), other)

    def test_one_thing_of_another_kind_at_each_depth(self):
        for machine, row in self.told():
            for other in misshapen(row):
                self.assertIs(is_row(machine, other), False)

    def test_any_value(self):
        for value in ODD + [0, (), ((), (), ()), (((0,),), (), ()), (((0,),), ((),), ()), FOUR, FOUR[0], [*FOUR_ROW]]:
            for machine in (FOUR, ONE):
                self.assertIs(is_row(machine, value), False)

    def test_the_letters_of_the_machine(self):
        one = (((0,),), (((0,),),), ((0, 0),))
        two = (((0, 0),), (((0,), (0,)),), ((0, 0),))
        for machine, row, expected in [
            (ONE, one, True), (ONE, two, False), (leading((0, 0)), two, True), (leading((0, 0)), one, False),
            (ONE, (one[0], two[1], one[2]), False), (ONE, (two[0], one[1], one[2]), False),
            (leading((0, 0)), (one[0], two[1], one[2]), False), (leading((0, 0)), (two[0], one[1], one[2]), False),
        ]:
            self.assertIs(is_row(machine, row), expected)


class FrontParting(Checks, unittest.TestCase):
    def test_by_hand(self):
        self.check_call((0, 1, 0, 1), front_parting, machine=FOUR, row=FOUR_ROW)
        self.check_call((0,), front_parting, machine=ONE, row=(((0,),), (((0,),),), ((0, 0),)))
        turned = renumbered(FOUR_ROW, [1, 0], [[0, 1], [1, 0]])
        self.check_call((0, 1, 0, 1), front_parting, machine=FOUR, row=turned)
        self.assertEqual([block for block, _ in turned[2]], [1, 0, 1, 0])

    def test_any_other_value(self):
        wrongs = ODD + [0, (), FOUR, [*FOUR_ROW], FOUR_ROW[:2], FOUR_ROW + ((),)]
        wrongs += [other for other in otherwise(FOUR_ROW) if not holds(FOUR, other)]
        wrongs += [other for other in misshapen(FOUR_ROW)]
        for wrong in wrongs:
            self.check_refused(BadRow, "value", wrong, front_parting, FOUR, wrong)


class WrongArguments(Checks, unittest.TestCase):
    def test_what_is_no_machine(self):
        for thing, place in bad_machines():
            for call in (row_of, least_rear):
                self.check_refused(BadMachine, "place", place, call, thing, (0, 1, 0, 1))
            for call in (is_row, front_parting):
                self.check_refused(BadMachine, "place", place, call, thing, FOUR_ROW)

    def test_what_is_no_kept_parting(self):
        wrongs = ODD + [0, (), (0, 0, 0), (0, 0, 0, 0, 0), (1, 0, 0, 0), [0, 1, 0, 1], (0, True, 0, 1)]
        wrongs += [parting for parting in all_partings(FOUR) if parting not in plain_kept(FOUR)]
        for wrong in wrongs:
            for call in (row_of, least_rear):
                self.check_refused(BadParting, "value", wrong, call, FOUR, wrong)
                self.check_refused(BadParting, "value", wrong, call, parting=wrong, machine=FOUR)

    def test_of_several_wrong_arguments_the_first_one_is_told(self):
        machine = ("machine", FOUR, [([], BadMachine, "place", ()), ((FOUR[0], None), BadMachine, "place", (1,))])
        wrongs = [(wrong, BadParting, "value", wrong) for wrong in (None, (0, 0), (0, 0, 1, 1))]
        for call in (row_of, least_rear):
            self.check_first_error(call, [machine, ("parting", (0, 1, 0, 1), wrongs)])
        self.check_first_error(is_row, [machine, ("value", FOUR_ROW, [])])
        self.check_first_error(front_parting, [machine, ("row", FOUR_ROW, [([], BadRow, "value", [])])])

    def test_what_is_refused_is_as_it_was(self):
        wrong = ([0], [[1]], {2: [3]})
        self.assertRaises(BadRow, front_parting, FOUR, wrong)
        self.assertIs(is_row(FOUR, wrong), False)
        self.assertEqual(wrong, ([0], [[1]], {2: [3]}))
