import unittest
from itertools import product

from keptpartings.errors import BadMachine, BadParting
from keptpartings.kept import is_kept
from keptpartings.knowing import before, is_pair, letters_alike, next_of
from keptpartings.partings import all_partings, is_finer, single, whole
from tests.samples import (
    FOUR, ODD, ONE, SIX, Checks, bad_machines, beside, great_machines, leading, resetting, small_machines, staying,
    strewn, together, turning,
)

LOST = leading((1, 0), (2, 1), (3, 2), (3, 3))


def machines():
    """Small machines, each with fifteen partings at the most."""
    return [machine for machine in small_machines() if len(machine[0]) <= 4]


def paired(machine, parting, other):
    """Whether two partings are a pair, by a look at all standings that are together and at each letter."""
    table, _ = machine
    goals = together(other)
    return all(
        (table[one][letter], table[far][letter]) in goals
        for one, far in together(parting) for letter in range(len(table[0]))
    )


def the_finest(partings):
    """The one of them that is finer than each."""
    found = [one for one in partings if all(together(one) <= together(other) for other in partings)]
    return found[0]


def the_greatest(partings):
    """The one of them than which each is finer."""
    found = [one for one in partings if all(together(other) <= together(one) for other in partings)]
    return found[0]


def classes(machine, parting):
    """The classes of alike letters, by the words of the document."""
    table, _ = machine
    pairs = together(parting)
    numbers = []
    for letter in range(len(table[0])):
        alike = [
            earlier for earlier in range(letter)
            if all((standing[earlier], standing[letter]) in pairs for standing in table)
        ]
        numbers.append(numbers[alike[0]] if alike else len(set(numbers)))
    return tuple(numbers)


class IsPair(Checks, unittest.TestCase):
    def test_by_hand(self):
        self.check_call(True, is_pair, machine=FOUR, parting=(0, 1, 0, 1), other=(0, 1, 0, 1))
        self.check_call(True, is_pair, machine=FOUR, parting=(0, 0, 1, 1), other=(0, 1, 1, 0))
        self.check_call(False, is_pair, machine=FOUR, parting=(0, 0, 1, 1), other=(0, 0, 1, 1))
        self.check_call(True, is_pair, machine=FOUR, parting=(0, 0, 0, 0), other=(0, 0, 0, 0))
        self.check_call(False, is_pair, machine=FOUR, parting=(0, 0, 0, 0), other=(0, 1, 0, 1))
        self.check_call(True, is_pair, machine=FOUR, parting=(0, 1, 2, 3), other=(0, 1, 2, 3))
        self.check_call(True, is_pair, machine=ONE, parting=(0,), other=(0,))
        self.check_call(True, is_pair, machine=LOST, parting=(0, 1, 2, 2), other=(0, 1, 2, 3)[:2] + (2, 2))
        self.check_call(False, is_pair, machine=LOST, parting=(0, 1, 2, 2), other=(0, 1, 2, 3))

    def test_each_letter_counts(self):
        machine = leading((0, 0, 0, 1), (0, 0, 0, 0))
        self.check_same(is_pair(machine, (0, 0), (0, 1)), False)
        self.check_same(is_pair(leading((1, 0), (0, 0)), (0, 0), (0, 1)), False)
        self.check_same(is_pair(leading((1, 0), (1, 0)), (0, 0), (0, 1)), True)

    def test_by_a_look_at_all_standings_that_are_together(self):
        found = {True: 0, False: 0}
        for machine in machines():
            for parting, other in product(all_partings(machine), repeat=2):
                told = paired(machine, parting, other)
                self.check_same(is_pair(machine, parting, other), told)
                found[told] += 1
        self.assertGreater(min(found.values()), 1000)

    def test_greater_machines(self):
        for machine in [strewn(5, 2, 1), strewn(6, 1, 4), SIX, *great_machines()]:
            partings = all_partings(machine)
            for parting, other in product(partings[::len(partings) // 11], partings[::len(partings) // 7]):
                self.check_same(is_pair(machine, parting, other), paired(machine, parting, other))


class NextOf(Checks, unittest.TestCase):
    def test_by_hand(self):
        self.check_call((0, 1, 1, 0), next_of, machine=FOUR, parting=(0, 0, 1, 1))
        self.check_call((0, 1, 0, 1), next_of, machine=FOUR, parting=(0, 1, 0, 1))
        self.check_call((0, 1, 0, 2), next_of, machine=FOUR, parting=(0, 1, 2, 1))
        self.check_call((0, 1, 2, 3), next_of, machine=FOUR, parting=(0, 1, 2, 3))
        self.check_call((0, 0, 0, 0), next_of, machine=FOUR, parting=(0, 0, 0, 0))
        self.check_call((0,), next_of, machine=ONE, parting=(0,))
        self.check_call((0, 1, 2, 3, 4), next_of, machine=resetting(5, 4), parting=(0, 0, 0, 0, 0))
        # Not finer than what it is the next of, nor the other way round.
        self.check_call((0, 1, 2, 2), next_of, machine=leading((2,), (3,), (0,), (1,)), parting=(0, 0, 1, 2))

    def test_the_finest_by_a_trial_of_all_partings(self):
        for machine in machines() + [strewn(5, 2, 1), strewn(5, 1, 7), turning(5), staying(5)]:
            partings = all_partings(machine)
            for parting in partings[::1 if len(partings) < 50 else 5]:
                behind = [other for other in partings if paired(machine, parting, other)]
                self.check_same(next_of(machine, parting), the_finest(behind))


class Before(Checks, unittest.TestCase):
    def test_by_hand(self):
        self.check_call((0, 1, 1, 0), before, machine=FOUR, parting=(0, 0, 1, 1))
        self.check_call((0, 0, 1, 1), before, machine=FOUR, parting=(0, 1, 1, 0))
        self.check_call((0, 1, 2, 3), before, machine=FOUR, parting=(0, 1, 2, 3))
        self.check_call((0, 0, 0, 0), before, machine=FOUR, parting=(0, 0, 0, 0))
        self.check_call((0,), before, machine=ONE, parting=(0,))
        self.check_call((0, 0, 0, 0, 0), before, machine=resetting(5, 4), parting=(0, 1, 2, 3, 4))
        self.check_call((0, 1, 2, 2), before, machine=leading((1,), (2,), (3,), (3,)), parting=(0, 1, 2, 3))

    def test_the_greatest_by_a_trial_of_all_partings(self):
        for machine in machines() + [strewn(5, 2, 1), strewn(5, 1, 7), turning(5), staying(5)]:
            partings = all_partings(machine)
            for other in partings[::1 if len(partings) < 50 else 5]:
                ahead = [parting for parting in partings if paired(machine, parting, other)]
                self.check_same(before(machine, other), the_greatest(ahead))


class Facts(Checks, unittest.TestCase):
    def test_pairs_next_and_before(self):
        for machine in machines():
            partings = all_partings(machine)
            for parting, other in product(partings, repeat=2):
                told = is_pair(machine, parting, other)
                self.check_same(is_finer(machine, parting, before(machine, other)), told)
                self.check_same(is_finer(machine, next_of(machine, parting), other), told)

    def test_kept_is_a_pair_with_itself(self):
        for machine in [*machines(), SIX, *great_machines()]:
            for parting in all_partings(machine)[::13 if len(machine[0]) > 6 else 1]:
                self.check_same(is_pair(machine, parting, parting), is_kept(machine, parting))

    def test_of_great_machines(self):
        for machine in great_machines():
            for parting in all_partings(machine)[::101]:
                self.assertTrue(paired(machine, parting, next_of(machine, parting)))
                self.assertTrue(paired(machine, before(machine, parting), parting))
                self.assertTrue(is_finer(machine, parting, before(machine, next_of(machine, parting))))
                self.assertTrue(is_finer(machine, next_of(machine, before(machine, parting)), parting))


class LettersAlike(Checks, unittest.TestCase):
    def test_by_hand(self):
        self.check_call((0,), letters_alike, machine=FOUR, parting=(0, 1, 0, 1))
        self.check_call((0, 1, 0, 1), letters_alike, machine=turning(4, 4), parting=(0, 1, 0, 1))
        self.check_call((0, 1, 2, 3), letters_alike, machine=turning(4, 4), parting=(0, 1, 2, 3))
        self.check_call((0, 0, 0, 0), letters_alike, machine=turning(4, 4), parting=(0, 0, 0, 0))
        self.check_call((0, 1, 2, 3), letters_alike, machine=turning(4, 4), parting=(0, 0, 1, 1))
        self.check_call((0, 0, 1, 1), letters_alike, machine=resetting(4, 4), parting=(0, 0, 1, 1))
        self.check_call((0, 1, 1, 0), letters_alike, machine=resetting(4, 4), parting=(0, 1, 1, 0))
        self.check_call((0, 0, 0), letters_alike, machine=(((0, 0, 0),), (0,)), parting=(0,))
        # Classes are numbered as they come, and not by the blocks that they lead to.
        self.check_call((0, 1), letters_alike, machine=leading((1, 0), (1, 0)), parting=(0, 1))
        self.check_call((0, 1, 0), letters_alike, machine=leading((1, 0, 1), (1, 0, 1)), parting=(0, 1))
        self.check_call((0, 1), letters_alike, machine=leading((0, 0), (0, 1)), parting=(0, 1))

    def test_by_the_words_of_the_document(self):
        found = set()
        for machine in machines():
            for parting in all_partings(machine):
                self.check_same(letters_alike(machine, parting), classes(machine, parting))
                found.add(classes(machine, parting))
        self.assertLessEqual({(0,), (0, 0), (0, 1), (0, 0, 0, 0), (0, 1, 2, 3), (0, 1, 0, 1)}, found)

    def test_of_great_machines(self):
        for machine in great_machines():
            for parting in all_partings(machine)[::41]:
                self.check_same(letters_alike(machine, parting), classes(machine, parting))


class WrongArguments(Checks, unittest.TestCase):
    def test_what_is_no_machine(self):
        for thing, place in bad_machines():
            told = (BadMachine, "place", place)
            for call in (next_of, before, letters_alike):
                self.check_refused(*told, call, thing, (0, 0, 0, 0))
            self.check_refused(*told, is_pair, thing, (0, 0, 0, 0), (0, 1, 2, 3))

    def test_what_is_no_parting(self):
        wrongs = [0, (), (0, 0, 0), (0, 0, 0, 0, 0), (0, 0, 0, 2), (1, 0, 0, 0), [0, 1, 0, 1], (0, True, 0, 1), "0101"]
        for wrong in ODD + wrongs:
            told = (BadParting, "value", wrong)
            for call in (next_of, before, letters_alike):
                self.check_refused(*told, call, FOUR, wrong)
                self.check_refused(*told, call, parting=wrong, machine=FOUR)
            self.check_refused(*told, is_pair, FOUR, wrong, (0, 1, 2, 3))
            self.check_refused(*told, is_pair, FOUR, (0, 1, 2, 3), wrong)
            self.check_refused(*told, is_pair, other=wrong, parting=(0, 0, 0, 0), machine=FOUR)

    def test_of_several_wrong_arguments_the_first_one_is_told(self):
        machine = ("machine", FOUR, [([], BadMachine, "place", ()), ((FOUR[0], None), BadMachine, "place", (1,))])
        parting = ("parting", (0, 1, 0, 1), [(wrong, BadParting, "value", wrong) for wrong in (None, (0, 0))])
        other = ("other", (0, 1, 0, 1), [(wrong, BadParting, "value", wrong) for wrong in ([], (0, 2, 1, 0))])
        for call in (next_of, before, letters_alike):
            self.check_first_error(call, [machine, parting])
        self.check_first_error(is_pair, [machine, parting, other])

    def test_what_is_refused_is_as_it_was(self):
        wrong = [0, [1], {2: [3]}]
        for call in (next_of, before, letters_alike):
            self.assertRaises(BadParting, call, FOUR, wrong)
        self.assertRaises(BadParting, is_pair, FOUR, single(FOUR), wrong)
        self.assertRaises(BadParting, is_pair, FOUR, wrong, whole(FOUR))
        self.assertEqual(wrong, [0, [1], {2: [3]}])


class MadeOfSmallerOnes(Checks, unittest.TestCase):
    def test_what_one_part_must_know_of_the_other(self):
        """Side by side neither must know the other one to know itself next."""
        machine = beside(turning(2), turning(3))
        first, second = (0, 0, 0, 1, 1, 1), (0, 1, 2, 0, 1, 2)
        self.assertIs(is_pair(machine, first, first), True)
        self.assertIs(is_pair(machine, second, second), True)
        self.assertIs(is_pair(machine, first, second), False)
