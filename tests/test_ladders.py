import unittest
from functools import lru_cache
from itertools import combinations, permutations, product

from keptpartings.errors import BadMachine, BadNumber, BadPaper, TooGreat
from keptpartings.kept import kept_partings
from keptpartings.ladders import check_width, longest_ladder, needs, width, width_paper
from keptpartings.partings import all_partings, single, whole
from tests.samples import (
    FOUR, ODD, ONE, SIX, Checks, at_spot, bad_machines, beside, changed, great_machines, leading, misshapen,
    otherwise, plain_kept, resetting, small_machines, spots, staying, strewn, together, turning,
)

WHOLE, TWO, THREE, SINGLE = kept_partings(SIX)
SIX_PAPER = ((WHOLE, TWO, SINGLE), (WHOLE, TWO))
# Machines with just as many kept partings as are let by, and with a few more.
JUST_FEW = [
    leading((0,), (2,), (4,), (3,), (4,), (2,), (6,), (2,)),
    leading((0, 7), (1, 1), (0, 5), (3, 7), (4, 7), (5, 5), (6, 6), (7, 7)),
]
MANY = [
    leading((0, 7), (3, 1), (2, 2), (3, 3), (4, 4), (7, 5), (2, 6), (7, 7)), staying(7), staying(8, 4),
    resetting(8), leading(*[(0, at) for at in range(8)]),
]

# Machines with kept partings that may be stuck, and need not be.
LOOSE = [
    leading((0, 1), (1, 2), (1, 0), (3, 4), (3, 0)),
    leading((3, 1), (4, 4), (5, 4), (2, 0), (4, 5), (5, 1)),
    leading((5, 1), (0, 3), (0, 1), (0, 2), (0, 2), (4, 5)),
    leading((1, 2), (3, 0), (3, 2), (5, 5), (1, 2), (2, 3), (6, 4)),
    leading((2, 3), (1, 3), (1, 3), (5, 5), (6, 6), (0, 0), (4, 2), (2, 1)),
    leading((0, 0), (6, 1), (7, 3), (2, 7), (6, 4), (5, 3), (1, 0), (1, 6)),
    leading((3, 5), (6, 6), (5, 5), (3, 3), (1, 1), (0, 0), (0, 7), (6, 5)),
]


def finer(one, far):
    """Whether what is together in the one is together in the other, by a look at all standings."""
    return together(one) <= together(far)


@lru_cache(maxsize=None)
def below(machine):
    """For each kept parting those finer than it, itself not among them."""
    kept = plain_kept(machine)
    return {wide: [fine for fine in kept if fine != wide and finer(fine, wide)] for wide in kept}


@lru_cache(maxsize=None)
def plain_ladders(machine):
    """All ladders of a machine, by the words of the document."""
    begun = [(whole(machine),)]
    ladders = []
    while begun:
        ladders += [ladder for ladder in begun if ladder[-1] == single(machine)]
        begun = [(*ladder, fine) for ladder in begun for fine in below(machine)[ladder[-1]]]
    return tuple(ladders)


@lru_cache(maxsize=None)
def plain_need(wide, fine):
    """The greatest number of blocks of the finer one within one block of the other one."""
    return max(
        len({part for part, outer in zip(fine, wide) if outer == block})
        for block in wide
    )


def plain_needs(ladder):
    return tuple(plain_need(wide, fine) for wide, fine in zip(ladder, ladder[1:]))


@lru_cache(maxsize=None)
def plain_width(machine):
    return min(max((1, *plain_needs(ladder))) for ladder in plain_ladders(machine))


def closed(machine, most, stuck):
    """Whether a lot of kept partings has all finer ones to which steps with needs below most lead."""
    return all(
        fine in stuck for wide in stuck for fine in below(machine)[wide] if plain_need(wide, fine) < most
    )


def shows(machine, most, stuck):
    """Whether a tuple of partings shows that no ladder has all needs below most, by the words of the document."""
    if most <= 2:
        return stuck == ()
    if not set(stuck) <= set(plain_kept(machine)) or list(stuck) != sorted(set(stuck)):
        return False
    return whole(machine) in stuck and single(machine) not in stuck and closed(machine, most, stuck)


def least_stuck(machine, most):
    """The partings that must be there with the whole one, perhaps the single one among them."""
    if most <= 2:
        return ()
    found = {whole(machine)}
    while not closed(machine, most, found):
        found |= {
            fine for wide in found for fine in below(machine)[wide] if plain_need(wide, fine) < most
        }
    return tuple(sorted(found))


@lru_cache(maxsize=None)
def machines():
    """Machines of all kinds, each with a few thousand ladders at the most."""
    some = list(small_machines()) + [beside(turning(3), turning(2)), turning(7), turning(8), turning(8, 4)]
    some += [beside(turning(2), turning(4)), strewn(7, 1, 5), strewn(8, 2, 7), leading((1,), (2,), (0,), (4,), (3,))]
    some += [leading((1,), (2,), (0,), (4,), (5,), (3,)), leading((1,), (2,), (3,), (4,), (0,), (0,))]
    return tuple(machine for machine in some + LOOSE if len(plain_kept(machine)) < 60)


def wide_machines():
    """Machines with a width above two."""
    return [machine for machine in machines() if plain_width(machine) > 2]


class Needs(Checks, unittest.TestCase):
    def test_by_hand(self):
        self.check_call((2, 3), needs, machine=SIX, ladder=(WHOLE, TWO, SINGLE))
        self.check_call((3, 2), needs, machine=SIX, ladder=(WHOLE, THREE, SINGLE))
        self.check_call((6,), needs, machine=SIX, ladder=(WHOLE, SINGLE))
        self.check_call((2, 2), needs, machine=FOUR, ladder=longest_ladder(FOUR))
        self.check_call((), needs, machine=ONE, ladder=((0,),))
        self.check_call((), needs, machine=leading((0, 0, 0, 0)), ladder=((0,),))
        self.check_call((2, 3), needs, machine=staying(4), ladder=((0,) * 4, (0, 1, 1, 1), (0, 1, 2, 3)))
        self.check_call((2, 2), needs, machine=staying(4), ladder=((0,) * 4, (0, 0, 1, 1), (0, 1, 2, 3)))
        self.check_call((3, 2), needs, machine=staying(4), ladder=((0,) * 4, (0, 1, 1, 2), (0, 1, 2, 3)))

    def test_all_ladders(self):
        for machine in machines():
            for ladder in plain_ladders(machine):
                self.check_same(needs(machine, ladder), plain_needs(ladder))

    def test_all_tuples_of_partings(self):
        trials = [(ONE, 4), (turning(2), 4), (resetting(2, 2), 4), (staying(3), 4), (leading((1,), (2,), (2,)), 4)]
        trials += [(FOUR, 3), (staying(4), 3), (beside(turning(2), turning(2)), 3), (strewn(4, 2, 3), 3)]
        for machine, most in trials:
            ladders = plain_ladders(machine)
            for many in range(most + 1):
                for value in product(all_partings(machine), repeat=many):
                    if value in ladders:
                        self.assertEqual(needs(machine, value), plain_needs(value))
                    else:
                        self.check_refused(BadNumber, "value", value, needs, machine, value)

    def test_wrong_steps(self):
        wrongs = [
            (), (WHOLE,), (SINGLE,), (SINGLE, WHOLE), (SINGLE, TWO, WHOLE), (WHOLE, TWO), (TWO, SINGLE),
            (WHOLE, WHOLE, SINGLE), (WHOLE, SINGLE, SINGLE), (WHOLE, TWO, TWO, SINGLE), (WHOLE, TWO, THREE, SINGLE),
            (WHOLE, THREE, TWO, SINGLE), (WHOLE, (0, 0, 0, 1, 1, 1), SINGLE), (WHOLE, (0, 1, 2, 0, 1, 3), SINGLE),
            (WHOLE, SINGLE, TWO, SINGLE), (WHOLE, SINGLE, WHOLE, SINGLE), [WHOLE, SINGLE], {WHOLE: 0, SINGLE: 1},
            ((0, 0, 0, 0), (0, 1, 2, 3)), ((WHOLE, SINGLE),), (WHOLE, list(SINGLE)), (0, SINGLE), WHOLE, SINGLE, 0,
            (WHOLE,) * 20000, (WHOLE, *[TWO] * 300, SINGLE),
        ]
        for wrong in wrongs + ODD:
            self.check_refused(BadNumber, "value", wrong, needs, SIX, wrong)
        for wrong in [(), ((0,), (0,)), ((),), (0,), [(0,)], ((False,),), ((1,),), ((0, 0),), *ODD]:
            self.check_refused(BadNumber, "value", wrong, needs, ONE, wrong)

    def test_something_otherwise_at_each_place(self):
        for machine, ladder in [(SIX, (WHOLE, TWO, SINGLE)), (FOUR, longest_ladder(FOUR))]:
            for wrong in misshapen(ladder):
                self.check_refused(BadNumber, "value", wrong, needs, machine, wrong)
            for other in otherwise(ladder):
                if other in plain_ladders(machine):
                    self.assertEqual(needs(machine, other), plain_needs(other))
                else:
                    self.check_refused(BadNumber, "value", other, needs, machine, other)

    def test_of_machines_with_many_kept_partings(self):
        for machine in MANY + JUST_FEW:
            many = len(machine[0])
            self.assertEqual(needs(machine, (whole(machine), single(machine))), (many,))
            self.check_refused(BadNumber, "value", (whole(machine),), needs, machine, (whole(machine),))
        growing = tuple(tuple(min(at, top) for at in range(8)) for top in range(8))
        self.assertEqual(needs(staying(8, 4), growing), (2,) * 7)


class LongestLadder(Checks, unittest.TestCase):
    def test_by_hand(self):
        self.check_call((WHOLE, TWO, SINGLE), longest_ladder, machine=SIX)
        self.check_call(((0, 0, 0, 0), (0, 1, 0, 1), (0, 1, 2, 3)), longest_ladder, machine=FOUR)
        self.check_call(((0,),), longest_ladder, machine=ONE)
        self.check_call(((0, 0), (0, 1)), longest_ladder, machine=turning(2))
        self.check_call(((0, 0, 0), (0, 1, 2)), longest_ladder, machine=turning(3))
        self.check_call(((0, 0, 0), (0, 0, 1), (0, 1, 2)), longest_ladder, machine=staying(3))
        ladder = ((0, 0, 0, 0), (0, 0, 0, 1), (0, 0, 1, 2), (0, 1, 2, 3))
        self.check_call(ladder, longest_ladder, machine=staying(4, 2))

    def test_by_a_trial_of_all_ladders(self):
        lengths = set()
        for machine in machines():
            ladders = plain_ladders(machine)
            most = max(len(ladder) for ladder in ladders)
            self.check_same(longest_ladder(machine), min(ladder for ladder in ladders if len(ladder) == most))
            lengths.add((most, len([ladder for ladder in ladders if len(ladder) == most]) > 1))
        self.assertLessEqual({(1, False), (2, False), (3, True), (4, True), (5, True)}, lengths)


class Width(Checks, unittest.TestCase):
    def test_by_hand(self):
        for machine, told in [(SIX, 3), (FOUR, 2), (ONE, 1), (leading((0, 0)), 1), (turning(2), 2), (turning(5), 5)]:
            self.check_call(told, width, machine=machine)
        for many in range(2, 7):
            self.check_call(2, width, machine=staying(many))
        for many, told in [(3, 3), (4, 2), (6, 3), (7, 7), (8, 2)]:
            self.check_call(told, width, machine=turning(many))
            self.check_call(told, width, machine=turning(many, 4))

    def test_by_a_trial_of_all_ladders(self):
        for machine in machines():
            self.check_same(width(machine), plain_width(machine))
        self.assertLessEqual({1, 2, 3, 4, 5, 7}, {plain_width(machine) for machine in machines()})


class WidthPaper(Checks, unittest.TestCase):
    def test_by_hand(self):
        ladder, stuck = width_paper(SIX)
        self.assertIn((ladder, stuck), [SIX_PAPER, ((WHOLE, THREE, SINGLE), (WHOLE, TWO))])
        self.check_call((ladder, stuck), width_paper, machine=SIX)
        self.check_call((((0,),), ()), width_paper, machine=ONE)
        self.check_call((((0, 0, 0, 0), (0, 1, 0, 1), (0, 1, 2, 3)), ()), width_paper, machine=FOUR)
        self.check_call((((0, 0), (0, 1)), ()), width_paper, machine=turning(2))
        self.check_call((((0, 0, 0), (0, 1, 2)), ((0, 0, 0),)), width_paper, machine=turning(3))

    def test_by_the_words_of_the_document(self):
        for machine in machines():
            ladder, stuck = width_paper(machine)
            self.assertIn(ladder, plain_ladders(machine))
            self.assertEqual(max((1, *plain_needs(ladder))), plain_width(machine))
            self.assertIsInstance(stuck, tuple)
            self.assertTrue(shows(machine, plain_width(machine), stuck), machine)
            self.assertEqual(check_width(machine, (ladder, stuck)), plain_width(machine))
            self.check_same(width_paper(machine), (ladder, stuck))
        self.assertGreater(len(wide_machines()), 20)


class CheckWidth(Checks, unittest.TestCase):
    def check_word(self, word, machine, paper):
        self.check_refused(BadPaper, "word", word, check_width, machine, paper)

    def check_judged(self, machine, paper):
        """Judges a paper that begins with a ladder by the words of the document."""
        ladder, stuck = paper
        most = max((1, *plain_needs(ladder)))
        if shows(machine, most, stuck):
            self.check_same(check_width(machine, paper), most)
        else:
            self.check_word("stuck", machine, paper)

    def test_by_hand(self):
        self.check_call(3, check_width, machine=SIX, paper=SIX_PAPER)
        self.check_call(3, check_width, machine=SIX, paper=((WHOLE, THREE, SINGLE), (WHOLE, TWO)))
        self.check_call(1, check_width, machine=ONE, paper=(((0,),), ()))
        self.check_call(2, check_width, machine=FOUR, paper=(longest_ladder(FOUR), ()))
        self.check_call(2, check_width, machine=turning(2), paper=(((0, 0), (0, 1)), ()))
        self.check_word("stuck", SIX, ((WHOLE, SINGLE), (WHOLE, TWO)))
        self.check_word("stuck", SIX, ((WHOLE, SINGLE), (WHOLE, TWO, THREE)))
        self.check_word("stuck", SIX, ((WHOLE, SINGLE), (WHOLE,)))
        self.check_word("stuck", SIX, (SIX_PAPER[0], ()))
        self.check_word("stuck", SIX, (SIX_PAPER[0], (WHOLE,)))
        self.check_word("stuck", SIX, (SIX_PAPER[0], (TWO,)))
        self.check_word("stuck", SIX, (SIX_PAPER[0], (TWO, WHOLE)))
        self.check_word("stuck", SIX, (SIX_PAPER[0], (WHOLE, TWO, THREE)))
        self.check_word("stuck", SIX, (SIX_PAPER[0], (WHOLE, TWO, SINGLE)))
        self.check_word("stuck", SIX, (SIX_PAPER[0], (WHOLE, TWO, THREE, SINGLE)))
        self.check_word("stuck", SIX, (SIX_PAPER[0], (WHOLE, (0, 0, 0, 1, 1, 1), TWO)))
        self.check_word("stuck", SIX, (SIX_PAPER[0], (WHOLE, TWO, TWO)))

    def test_a_width_of_two_or_less_needs_nothing_stuck(self):
        for machine in (ONE, FOUR, turning(2), staying(4)):
            ladder = width_paper(machine)[0]
            self.assertEqual(check_width(machine, (ladder, ())), width(machine))
            others = ODD + [0, [], [whole(machine)], (whole(machine),), (single(machine),), (whole(machine), single(machine))]
            for other in others + [kept_partings(machine), kept_partings(machine)[:-1]]:
                if other != () or isinstance(other, list):
                    self.check_word("stuck", machine, (ladder, other))

    def test_the_form(self):
        ladder, stuck = SIX_PAPER
        papers = ODD + [
            0, (), (ladder,), (ladder, stuck, ()), (ladder, stuck, stuck), [ladder, stuck], {ladder: stuck},
            (None,), (None,) * 3, ladder, WHOLE,
        ]
        for paper in papers:
            for machine in (SIX, ONE):
                self.check_word("form", machine, paper)
        # The bare string is no pair, though it has two items.
        self.check_word("form", SIX, "01")
        self.check_word("ladder", SIX, (None, None))
        self.check_word("ladder", SIX, ((), ()))

    def test_what_is_no_ladder(self):
        wrongs = ODD + [(), 0, (WHOLE,), (WHOLE, TWO), (WHOLE, TWO, THREE, SINGLE), [WHOLE, SINGLE], (WHOLE, WHOLE, SINGLE)]
        for wrong in wrongs:
            for stuck in ((WHOLE, TWO), (), None, [WHOLE], wrong):
                self.check_word("ladder", SIX, (wrong, stuck))
        for wrong in misshapen(SIX_PAPER[0]):
            self.check_word("ladder", SIX, (wrong, SIX_PAPER[1]))
        for other in otherwise(SIX_PAPER[0]):
            if other not in plain_ladders(SIX):
                self.check_word("ladder", SIX, (other, SIX_PAPER[1]))

    def test_all_ladders_with_what_must_be_stuck(self):
        greater = 0
        for machine in machines():
            for ladder in plain_ladders(machine)[:20]:
                most = max((1, *plain_needs(ladder)))
                self.check_judged(machine, (ladder, least_stuck(machine, most)))
                self.check_judged(machine, (ladder, least_stuck(machine, plain_width(machine))))
                greater += most > plain_width(machine)
                if most == plain_width(machine):
                    self.assertEqual(check_width(machine, (ladder, least_stuck(machine, most))), most)
        self.assertGreater(greater, 50)

    def test_all_lots_that_may_be_stuck(self):
        """With more partings than are needed, too, and with fewer."""
        more = 0
        for machine in wide_machines():
            kept = plain_kept(machine)
            ladder = width_paper(machine)[0]
            if len(kept) <= 8:
                for many in range(len(kept) + 1):
                    for stuck in combinations(kept, many):
                        self.check_judged(machine, (ladder, stuck))
                        longer = len(stuck) > len(least_stuck(machine, plain_width(machine)))
                        more += longer and shows(machine, plain_width(machine), stuck)
        self.assertGreater(more, 5)

    def test_in_another_order_or_twice(self):
        for machine in wide_machines():
            ladder, stuck = width_paper(machine)
            if 1 < len(stuck) < 5:
                for other in permutations(stuck):
                    self.check_judged(machine, (ladder, other))
            for at in range(len(stuck)):
                self.check_word("stuck", machine, (ladder, stuck[:at] + stuck[at:at + 1] + stuck[at:]))
            self.check_word("stuck", machine, (ladder, list(stuck)))
            self.check_word("stuck", machine, (ladder, stuck * 500))

    def test_with_a_parting_that_is_not_kept(self):
        for machine in wide_machines():
            ladder, stuck = width_paper(machine)
            for parting in all_partings(machine)[::7][:20]:
                if parting not in plain_kept(machine):
                    self.check_word("stuck", machine, (ladder, tuple(sorted((*stuck, parting)))))

    def test_something_otherwise_at_each_place(self):
        for machine in (SIX, turning(5), LOOSE[0]):
            paper = width_paper(machine)
            for spot in spots(paper):
                if spot[:1] == (1,):
                    for other in otherwise(at_spot(paper, spot)):
                        self.check_judged(machine, changed(paper, spot, other))
            for wrong in misshapen(paper[1]):
                self.check_word("stuck", machine, (paper[0], wrong))


class GreatMachines(Checks, unittest.TestCase):
    def test_with_three_hundred_kept_partings(self):
        for machine in JUST_FEW:
            self.assertEqual(len(plain_kept(machine)), 300)
            found = longest_ladder(machine)
            self.assertEqual(len(needs(machine, found)), len(found) - 1)
            ladder, stuck = width_paper(machine)
            self.assertEqual(max(needs(machine, ladder)), width(machine))
            self.assertEqual(check_width(machine, (ladder, stuck)), width(machine))
            self.check_refused(BadPaper, "word", "form", check_width, machine, None)

    def test_with_more(self):
        for machine in MANY:
            self.assertGreater(len(plain_kept(machine)), 300)
            for call in (longest_ladder, width, width_paper):
                self.check_refused(TooGreat, "most", 300, call, machine)
                self.check_refused(TooGreat, "most", 300, call, machine=machine)
            for paper in [None, (), [], (None, None), ((whole(machine), single(machine)), ()), SIX_PAPER]:
                self.check_refused(TooGreat, "most", 300, check_width, machine, paper)
        self.assertLessEqual(len(plain_kept(MANY[0])), 305)

    def test_a_machine_that_is_none_is_told_first(self):
        table, shown = staying(8)
        for call in (longest_ladder, width, width_paper):
            self.check_refused(BadMachine, "place", (1, 7), call, (table, (*shown[:7], 10)))
        self.check_refused(BadMachine, "place", (1, 7), check_width, (table, (*shown[:7], True)), None)

    def test_each_one_by_its_own_paper(self):
        for machine in great_machines():
            if len(plain_kept(machine)) <= 300:
                ladder, stuck = width_paper(machine)
                self.assertEqual(max(plain_needs(ladder)), width(machine))
                self.assertTrue(shows(machine, width(machine), stuck))
                self.assertEqual(check_width(machine, (ladder, stuck)), width(machine))
                self.assertTrue(longest_ladder(machine)[0] < longest_ladder(machine)[-1])


class WrongArguments(Checks, unittest.TestCase):
    def test_what_is_no_machine(self):
        for thing, place in bad_machines():
            told = (BadMachine, "place", place)
            for call in (longest_ladder, width, width_paper):
                self.check_refused(*told, call, thing)
            self.check_refused(*told, needs, thing, ((0, 0, 0, 0), (0, 1, 2, 3)))
            self.check_refused(*told, check_width, thing, (((0, 0, 0, 0), (0, 1, 2, 3)), ()))

    def test_of_several_wrong_arguments_the_first_one_is_told(self):
        machine = ("machine", SIX, [([], BadMachine, "place", ()), ((SIX[0], None), BadMachine, "place", (1,))])
        wrongs = [(wrong, BadNumber, "value", wrong) for wrong in (None, (), (WHOLE, TWO))]
        self.check_first_error(needs, [machine, ("ladder", SIX_PAPER[0], wrongs)])
        wrongs = [([], BadPaper, "word", "form"), (([], []), BadPaper, "word", "ladder")]
        wrongs.append(((SIX_PAPER[0], []), BadPaper, "word", "stuck"))
        self.check_first_error(check_width, [machine, ("paper", SIX_PAPER, wrongs)])

    def test_what_is_refused_is_as_it_was(self):
        wrong = (SIX_PAPER[0], [[0], {2: [3]}])
        self.assertRaises(BadPaper, check_width, SIX, wrong)
        self.assertRaises(BadNumber, needs, SIX, wrong)
        self.assertEqual(wrong, (SIX_PAPER[0], [[0], {2: [3]}]))
