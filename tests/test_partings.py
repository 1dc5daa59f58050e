import unittest
from itertools import product

from keptpartings.errors import BadMachine, BadParting
from keptpartings.partings import all_partings, blocks, is_finer, is_parting, join, meet, single, whole
from tests.samples import FOUR, ODD, ONE, SIX, Checks, bad_machines, together, turning

MANY = [1, 2, 5, 15, 52, 203, 877, 4140]


def drawn_on(pairs):
    """The pairs that pairs bring together one behind the other."""
    more = pairs | {(one, far) for one, middle in pairs for begin, far in pairs if middle == begin}
    return more if more == pairs else drawn_on(more)


def plain_partings(many):
    """The partings of many standings, found among all tuples of numbers."""
    return [
        numbers for numbers in product(range(many), repeat=many)
        if all(block in (0, *(one + 1 for one in numbers[:at]), *numbers[:at]) for at, block in enumerate(numbers))
        and numbers[0] == 0
    ]


class IsParting(Checks, unittest.TestCase):
    def test_partings(self):
        for value in [(0, 0, 0, 0), (0, 1, 2, 3), (0, 1, 0, 1), (0, 0, 1, 2), (0, 1, 2, 0)]:
            self.check_call(True, is_parting, machine=FOUR, value=value)
        self.check_call(True, is_parting, machine=ONE, value=(0,))

    def test_blocks_are_numbered_as_they_come(self):
        for value in [(1, 0, 0, 0), (1, 1, 1, 1), (0, 2, 1, 0), (0, 2, 2, 2), (0, 0, 0, 2), (0, 1, 3, 2)]:
            self.check_call(False, is_parting, machine=FOUR, value=value)
        self.check_call(False, is_parting, machine=ONE, value=(1,))

    def test_there_is_a_number_for_each_standing(self):
        for value in [(), (0,), (0, 0, 0), (0, 1, 2), (0, 0, 0, 0, 0), (0, 1, 2, 3, 4), (0,) * 20000]:
            self.check_call(False, is_parting, machine=FOUR, value=value)
        self.check_call(False, is_parting, machine=ONE, value=())

    def test_any_value(self):
        for value in ODD + [0, 1, [0, 0, 0, 0], [0, 1, 2, 3], "0000", "0123", b"\x00\x00\x00\x00", FOUR]:
            with self.subTest(value=value):
                self.assertIs(is_parting(FOUR, value), False)
                self.assertIs(is_parting(ONE, value), False)
        for thing in ODD:
            for at in range(4):
                value = (0, 0, 0, 0)[:at] + (thing,) + (0, 0, 0, 0)[at + 1:]
                self.assertIs(is_parting(FOUR, value), False)
        for value in [(False, 0, 0, 0), (0, True, 0, 0), (0, 1, True, 0), (0, -1, 0, 0), (0, 1, -1, 0)]:
            self.assertIs(is_parting(FOUR, value), False)

    def test_all_tuples_of_numbers(self):
        for many in range(1, 5):
            found = [value for value in product(range(-1, many + 1), repeat=many) if is_parting(turning(many), value)]
            self.assertEqual(found, plain_partings(many))


class AllPartings(Checks, unittest.TestCase):
    def test_as_many_as_there_are(self):
        for standings, many in enumerate(MANY, start=1):
            self.assertEqual(len(all_partings(turning(standings))), many)

    def test_by_hand(self):
        self.check_call(((0,),), all_partings, machine=ONE)
        self.check_call(((0, 0), (0, 1)), all_partings, machine=turning(2))
        by_hand = ((0, 0, 0), (0, 0, 1), (0, 1, 0), (0, 1, 1), (0, 1, 2))
        self.check_call(by_hand, all_partings, machine=turning(3, 4))

    def test_ascending_and_each_is_a_parting(self):
        for standings in range(1, 9):
            machine = turning(standings)
            found = all_partings(machine)
            self.assertTrue(all(one < far for one, far in zip(found, found[1:])))
            self.assertTrue(all(is_parting(machine, parting) for parting in found))

    def test_each_parting_is_there(self):
        for standings in range(1, 7):
            self.assertEqual(all_partings(turning(standings)), tuple(plain_partings(standings)))


class SingleAndWhole(Checks, unittest.TestCase):
    def test_by_hand(self):
        self.check_call((0,), single, machine=ONE)
        self.check_call((0,), whole, machine=ONE)
        self.check_call((0, 1, 2, 3, 4, 5), single, machine=SIX)
        self.check_call((0, 0, 0, 0, 0, 0), whole, machine=SIX)
        self.check_call((0, 1, 2, 3, 4, 5, 6, 7), single, machine=turning(8))
        self.check_call((0,) * 8, whole, machine=turning(8))

    def test_all_partings_lie_between(self):
        for standings in range(1, 7):
            machine = turning(standings)
            for parting in all_partings(machine):
                self.assertIs(is_finer(machine, single(machine), parting), True)
                self.assertIs(is_finer(machine, parting, whole(machine)), True)


class Blocks(Checks, unittest.TestCase):
    def test_by_hand(self):
        self.check_call(((0,),), blocks, machine=ONE, parting=(0,))
        self.check_call(((0, 2), (1, 3)), blocks, machine=FOUR, parting=(0, 1, 0, 1))
        self.check_call(((0, 3, 4), (1,), (2, 5)), blocks, machine=SIX, parting=(0, 1, 2, 0, 0, 2))
        self.check_call(((0, 1, 2, 3),), blocks, machine=FOUR, parting=(0, 0, 0, 0))
        self.check_call(((0,), (1,), (2,), (3,)), blocks, machine=FOUR, parting=(0, 1, 2, 3))

    def test_all_partings(self):
        for standings in range(1, 7):
            machine = turning(standings)
            for parting in all_partings(machine):
                numbers = range(max(parting) + 1)
                expected = tuple(tuple(at for at in range(standings) if parting[at] == block) for block in numbers)
                self.assertEqual(blocks(machine, parting), expected)


class IsFiner(Checks, unittest.TestCase):
    def test_by_hand(self):
        self.check_call(True, is_finer, machine=FOUR, parting=(0, 1, 0, 2), other=(0, 1, 0, 1))
        self.check_call(False, is_finer, machine=FOUR, parting=(0, 1, 0, 1), other=(0, 1, 0, 2))
        self.check_call(False, is_finer, machine=FOUR, parting=(0, 0, 1, 1), other=(0, 1, 1, 0))
        self.check_call(True, is_finer, machine=FOUR, parting=(0, 0, 1, 2), other=(0, 0, 1, 1))
        self.check_call(True, is_finer, machine=ONE, parting=(0,), other=(0,))

    def test_all_partings(self):
        for standings in range(1, 6):
            machine = turning(standings)
            for parting, other in product(all_partings(machine), repeat=2):
                self.assertIs(is_finer(machine, parting, other), together(parting) <= together(other))


class MeetAndJoin(Checks, unittest.TestCase):
    def test_by_hand(self):
        self.check_call((0, 1, 2, 3), meet, machine=FOUR, parting=(0, 0, 1, 1), other=(0, 1, 0, 1))
        self.check_call((0, 0, 0, 0), join, machine=FOUR, parting=(0, 0, 1, 1), other=(0, 1, 0, 1))
        self.check_call((0, 0, 1, 2), meet, machine=FOUR, parting=(0, 0, 1, 1), other=(0, 0, 0, 1))
        self.check_call((0, 0, 0, 1), join, machine=FOUR, parting=(0, 0, 1, 2), other=(0, 1, 1, 2))
        self.check_call((0,), meet, machine=ONE, parting=(0,), other=(0,))
        self.check_call((0,), join, machine=ONE, parting=(0,), other=(0,))

    def test_a_join_goes_on_from_block_to_block(self):
        for other, joined in [
            ((0, 1, 1, 2, 2, 3, 3, 4), (0,) * 8),
            ((0, 1, 2, 3, 4, 3, 5, 0), (0, 0, 1, 1, 1, 1, 0, 0)),
            ((0, 1, 2, 3, 4, 0, 5, 6), (0, 0, 1, 1, 0, 0, 2, 2)),
        ]:
            parting = (0, 0, 1, 1, 2, 2, 3, 3)
            self.check_call(joined, join, machine=turning(8), parting=parting, other=other)
            self.check_call(joined, join, machine=turning(8), parting=other, other=parting)

    def test_by_what_is_together(self):
        for standings in range(1, 6):
            machine = turning(standings)
            for parting, other in product(all_partings(machine), repeat=2):
                met, joined = meet(machine, parting, other), join(machine, parting, other)
                self.assertTrue(is_parting(machine, met) and is_parting(machine, joined))
                self.assertEqual(together(met), together(parting) & together(other))
                self.assertEqual(together(joined), drawn_on(together(parting) | together(other)))

    def test_the_meet_is_the_greatest_below_both(self):
        machine = turning(4)
        partings = all_partings(machine)
        for parting, other, third in product(partings, repeat=3):
            both = is_finer(machine, third, parting) and is_finer(machine, third, other)
            self.assertEqual(is_finer(machine, third, meet(machine, parting, other)), both)

    def test_the_join_is_the_least_above_both(self):
        machine = turning(4)
        partings = all_partings(machine)
        for parting, other, third in product(partings, repeat=3):
            both = is_finer(machine, parting, third) and is_finer(machine, other, third)
            self.assertEqual(is_finer(machine, join(machine, parting, other), third), both)

    def test_many_partings_of_eight_standings(self):
        machine = turning(8)
        partings = all_partings(machine)
        for parting, other in product(partings[::97], partings[::89]):
            met, joined = meet(machine, parting, other), join(machine, parting, other)
            self.assertEqual(together(met), together(parting) & together(other))
            self.assertEqual(together(joined), drawn_on(together(parting) | together(other)))


class WrongArguments(Checks, unittest.TestCase):
    def test_what_is_no_machine(self):
        for thing, place in bad_machines():
            told = (BadMachine, "place", place)
            for call in (single, whole, all_partings):
                self.check_refused(*told, call, thing)
                self.check_refused(*told, call, machine=thing)
            for call in (is_parting, blocks):
                self.check_refused(*told, call, thing, (0, 0, 0, 0))
            for call in (is_finer, meet, join):
                self.check_refused(*told, call, thing, (0, 0, 0, 0), (0, 0, 0, 0))

    def test_what_is_no_parting(self):
        fine = (0, 1, 0, 1)
        wrongs = ODD + [0, (), (0, 0, 0), (0, 0, 0, 0, 0), (0, 0, 0, 2), (1, 0, 0, 0), [0, 0, 0, 0], (0, True, 0, 1)]
        for wrong in wrongs:
            self.check_refused(BadParting, "value", wrong, blocks, FOUR, wrong)
            for call in (is_finer, meet, join):
                self.check_refused(BadParting, "value", wrong, call, FOUR, wrong, fine)
                self.check_refused(BadParting, "value", wrong, call, FOUR, fine, wrong)

    def test_of_several_wrong_arguments_the_first_one_is_told(self):
        machine = ("machine", FOUR, [([], BadMachine, "place", ()), ((FOUR[0], None), BadMachine, "place", (1,))])
        partings = [
            (name, (0, 0, 1, 1), [(wrong, BadParting, "value", wrong) for wrong in wrongs])
            for name, wrongs in (("parting", (None, (0, 0))), ("other", ([0], (0, 0, 0, 2))))
        ]
        self.check_first_error(blocks, [machine, partings[0]])
        for call in (is_finer, meet, join):
            self.check_first_error(call, [machine, *partings])
        self.check_first_error(is_parting, [machine, ("value", (0, 0, 1, 1), [])])

    def test_what_is_refused_is_as_it_was(self):
        wrong = [0, [1], {2: [3]}]
        for call in (is_finer, meet, join):
            self.assertRaises(BadParting, call, FOUR, wrong, wrong)
        self.assertIs(is_parting(FOUR, wrong), False)
        self.assertEqual(wrong, [0, [1], {2: [3]}])
