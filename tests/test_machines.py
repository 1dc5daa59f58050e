import unittest
from copy import deepcopy

from keptpartings.errors import BadMachine, BadStanding, BadWord
from keptpartings.machines import need_machine, run
from tests.samples import FOUR, ODD, ONE, SIX, Checks, bad_machines, turning


class NeedMachine(Checks, unittest.TestCase):
    def check_place(self, place, thing):
        self.check_refused(BadMachine, "place", place, need_machine, thing)

    def test_a_machine_is_given_back_itself(self):
        for standings in range(1, 9):
            for letters in range(1, 5):
                machine = turning(standings, letters)
                self.assertIs(need_machine(machine), machine)
                self.assertIs(need_machine(thing=machine), machine)
                self.check_call(machine, need_machine, thing=machine)

    def test_each_figure_is_shown(self):
        for figure in range(10):
            machine = (((0,),), (figure,))
            self.assertIs(need_machine(machine), machine)
            machine = (FOUR[0], (0, 9, figure, 0))
            self.assertIs(need_machine(machine), machine)

    def test_standings_need_not_be_reached(self):
        machine = (((0, 0), (0, 0), (2, 2)), (0, 9, 0))
        self.assertIs(need_machine(machine), machine)

    def test_each_kind_of_fault_is_told_with_its_place(self):
        for thing, place in bad_machines():
            with self.subTest(thing=thing):
                before = repr(thing)
                self.check_place(place, thing)
                self.check_refused(BadMachine, "place", place, need_machine, thing=thing)
                self.assertEqual(repr(thing), before)

    def test_limits_of_the_table(self):
        self.check_place((0,), ((), ()))
        self.check_place((0,), (((0,),) * 9, (0,) * 9))
        self.check_place((0, 0), (((),), (0,)))
        self.check_place((0, 0), (((0,) * 5,), (0,)))
        self.check_place((0, 0), (((), ()), (0, 0)))
        self.check_place((0, 1), (((0,), (0, 0)), (0, 0)))
        self.check_place((0, 1), (((0, 0), (0,)), (0, 0)))
        self.check_place((0, 2), (((0, 0), (0, 0), ()), (0, 0, 0)))
        self.check_place((0, 0, 0), (((1,),), (0,)))
        self.check_place((0, 7, 3), (((0,) * 4,) * 7 + ((0, 0, 0, 8),), (0,) * 8))
        self.check_place((0, 1, 1), (((0, 0), (0, -1)), (0, 0)))

    def test_limits_of_what_is_shown(self):
        self.check_place((1,), (((0,),), ()))
        self.check_place((1,), (((0,),), (0, 0)))
        self.check_place((1, 0), (((0,),), (-1,)))
        self.check_place((1, 0), (((0,),), (10,)))
        self.check_place((1, 7), (((0,),) * 8, (9,) * 7 + (10,)))

    def test_true_and_false_are_no_integers(self):
        self.check_place((0, 0, 0), (((False,),), (0,)))
        self.check_place((0, 1, 0), (((1,), (True,)), (0, 0)))
        self.check_place((1, 0), (((0,),), (False,)))
        self.check_place((1, 0), (((0,),), (True,)))

    def test_lists_in_the_place_of_tuples(self):
        self.check_place((), [((0,),), (0,)])
        self.check_place((0,), ([(0,)], (0,)))
        self.check_place((0, 0), (([0],), (0,)))
        self.check_place((1,), (((0,),), [0]))
        thing = ([[0]], [0])
        before = deepcopy(thing)
        self.check_place((0,), thing)
        self.assertEqual(thing, before)

    def test_of_two_faults_the_one_that_is_listed_first_is_told(self):
        self.check_place((), ([], (), ()))
        self.check_place((0,), ([], None))
        self.check_place((0,), ([None], [None]))
        self.check_place((0, 1), (((9,), (9, 9)), (0, 0)))
        self.check_place((0, 2), (((0,), (9,), [0]), ()))
        self.check_place((0, 1, 0), (((0,), (2,)), ()))
        self.check_place((0, 1, 0), (((0,), (2,)), (10, 0)))
        self.check_place((1,), (((0,), (1,)), (10,)))

    def test_of_several_items_the_first_one_is_told(self):
        self.check_place((0, 0), (((), (0, 0), None), (0, 0, 0)))
        self.check_place((0, 1), (((0,), None, (0, 0)), (0, 0, 0)))
        self.check_place((0, 0, 1), (((0, 3), (3, 0), (3, 3)), (0, 0, 0)))
        self.check_place((0, 1, 0), (((0, 0), (3, 3), (3, 0)), (0, 0, 0)))
        self.check_place((1, 1), (((0,), (0,), (0,)), (0, 10, -1)))


class Run(Checks, unittest.TestCase):
    def test_each_letter_leads_on(self):
        machine = (((1, 0), (2, 0), (2, 1)), (0, 1, 2))
        self.check_call((0, 1, 2, 1, 0), run, machine=machine, standing=0, word=(0, 0, 1, 1))
        self.check_call((2, 2, 1, 2), run, machine=machine, standing=2, word=(0, 1, 0))
        self.check_call((5, 0, 1), run, machine=SIX, standing=5, word=(0, 0))
        self.check_call((0, 0), run, machine=ONE, standing=0, word=(0,))

    def test_all_letters_and_standings(self):
        for letters in range(1, 5):
            machine = turning(8, letters)
            for at in range(8):
                for letter in range(letters):
                    self.assertEqual(run(machine, at, (letter,)), (at, (at + letter + 1) % 8))

    def test_the_word_of_no_letter(self):
        for at in range(6):
            self.check_call((at,), run, machine=SIX, standing=at, word=())

    def test_the_longest_word(self):
        came = run(SIX, 2, (0,) * 400)
        self.assertEqual(came, tuple((2 + step) % 6 for step in range(401)))
        self.check_refused(BadWord, "place", None, run, SIX, 2, (0,) * 401)
        self.check_refused(BadWord, "place", None, run, SIX, 2, (9,) * 401)

    def test_what_is_no_tuple_is_no_word(self):
        for word in [value for value in ODD if not isinstance(value, tuple)] + [0, 1]:
            with self.subTest(word=word):
                self.check_refused(BadWord, "place", None, run, FOUR, 0, word)

    def test_the_first_thing_that_is_no_letter_is_told(self):
        for wrong in ODD + [1, 2]:
            self.check_refused(BadWord, "place", 0, run, FOUR, 0, (wrong,))
            self.check_refused(BadWord, "place", 3, run, FOUR, 0, (0, 0, 0, wrong))
            self.check_refused(BadWord, "place", 1, run, FOUR, 0, (0, wrong, wrong, 0))
            self.check_refused(BadWord, "place", 399, run, FOUR, 0, (0,) * 399 + (wrong,))
        self.check_refused(BadWord, "place", 1, run, turning(2, 4), 0, (3, 4))

    def test_standings_of_any_kind(self):
        for wrong in ODD + [4, 8, (), (0,)]:
            self.check_refused(BadStanding, "value", wrong, run, FOUR, wrong, (0,))
        self.check_refused(BadStanding, "value", 1, run, ONE, 1, ())

    def test_what_is_no_machine(self):
        for thing, place in bad_machines():
            self.check_refused(BadMachine, "place", place, run, thing, 0, ())

    def test_of_several_wrong_arguments_the_first_one_is_told(self):
        self.check_first_error(run, [
            ("machine", FOUR, [(None, BadMachine, "place", ()), ((FOUR[0], ()), BadMachine, "place", (1,))]),
            ("standing", 1, [(4, BadStanding, "value", 4), (True, BadStanding, "value", True)]),
            ("word", (0,), [([0], BadWord, "place", None), ((0, 1), BadWord, "place", 1)]),
        ])
