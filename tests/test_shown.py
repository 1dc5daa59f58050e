import unittest
from functools import lru_cache
from itertools import product

from keptpartings.errors import BadMachine, BadParting, BadStanding
from keptpartings.machines import need_machine, run
from keptpartings.partings import all_partings, single, whole
from keptpartings.shown import alike, least_machine, parting_word, tells
from tests.samples import (
    FOUR, ODD, ONE, SIX, Checks, bad_machines, beside, great_machines, leading, plain_kept, resetting, showing,
    small_machines, staying, strewn, together, turning,
)

# The standings 1 and 2 show the same and are led alike; 0 is led to them.
DOUBLED = showing(leading((1, 2), (1, 0), (1, 0)), 3, 5, 5)
# Each standing but the first is led to the one ahead, and only the first one shows 1.
FALLING = showing(leading(*[(max(at - 1, 0),) for at in range(8)]), 1, *[0] * 7)


def strewn_shown(machine, kinds, seed):
    """The machine with figures that are strewn about, of so many kinds, always the same for the same seed."""
    shown = []
    for _ in machine[0]:
        seed = (seed * 1103515245 + 12345) % 2 ** 31
        shown.append((seed >> 16) % kinds)
    return showing(machine, *shown)


@lru_cache(maxsize=None)
def machines():
    """Machines of all kinds that show all kinds of things, none with more than six standings."""
    found = [DOUBLED, SIX, FOUR, ONE, showing(ONE, 9)]
    for number, machine in enumerate(small_machines()):
        found += [strewn_shown(machine, kinds, number) for kinds in (1, 2, 3)]
    two = showing(turning(2, 2), 0, 1)
    for machine in (beside(two, staying(2, 2)), beside(turning(3, 1), staying(2))):
        found.append(showing(machine, *[at // 2 for at in range(len(machine[0]))]))
        found.append(showing(machine, *[at % 2 for at in range(len(machine[0]))]))
    return tuple(found)


def words_shorter_than_standings(machine):
    """All words with fewer letters than there are standings, the shortest first, and else the least."""
    letters = range(len(machine[0][0]))
    return [word for length in range(len(machine[0])) for word in product(letters, repeat=length)]


@lru_cache(maxsize=None)
def plain_words(machine):
    """For each two standings the first of all those words that parts them, or None."""
    table, shown = machine
    found = {two: None for two in product(range(len(table)), repeat=2)}
    for word in words_shorter_than_standings(machine):
        seen = []
        for standing in range(len(table)):
            for letter in word:
                standing = table[standing][letter]
            seen.append(shown[standing])
        for one, far in found:
            if found[one, far] is None and seen[one] != seen[far]:
                found[one, far] = word
    return found


class Tells(Checks, unittest.TestCase):
    def test_by_hand(self):
        self.check_call(True, tells, machine=FOUR, parting=(0, 0, 0, 1))
        self.check_call(True, tells, machine=FOUR, parting=(0, 1, 0, 2))
        self.check_call(False, tells, machine=FOUR, parting=(0, 1, 0, 1))
        self.check_call(False, tells, machine=FOUR, parting=(0, 0, 0, 0))
        self.check_call(True, tells, machine=FOUR, parting=(0, 1, 2, 3))
        self.check_call(True, tells, machine=staying(4), parting=(0, 0, 0, 0))
        self.check_call(True, tells, machine=ONE, parting=(0,))
        self.check_call(True, tells, machine=showing(staying(3), 7, 2, 7), parting=(0, 1, 0))
        self.check_call(False, tells, machine=showing(staying(3), 7, 2, 7), parting=(0, 0, 1))

    def test_by_a_look_at_all_that_are_together(self):
        found = {True: 0, False: 0}
        for machine in machines():
            shown = machine[1]
            for parting in all_partings(machine)[::1 if len(shown) < 6 else 9]:
                told = all(shown[one] == shown[far] for one, far in together(parting))
                self.check_same(tells(machine, parting), told)
                found[told] += 1
        self.assertGreater(min(found.values()), 500)


class Alike(Checks, unittest.TestCase):
    def test_by_hand(self):
        self.check_call((0, 1, 2, 3, 4, 5), alike, machine=SIX)
        self.check_call((0, 1, 2, 3), alike, machine=FOUR)
        self.check_call((0,), alike, machine=ONE)
        self.check_call((0, 1, 1), alike, machine=DOUBLED)
        self.check_call((0, 0, 0, 0), alike, machine=staying(4))
        self.check_call((0, 1, 0, 1), alike, machine=showing(turning(4), 0, 1, 0, 1))
        self.check_call((0, 1, 2, 3), alike, machine=showing(turning(4), 0, 0, 1, 1))
        self.check_call((0, 1, 1, 1), alike, machine=showing(staying(4), 0, 1, 1, 1))
        self.check_call((0, 1, 2, 3, 4, 5, 6, 7), alike, machine=FALLING)
        self.check_call((0,) * 8, alike, machine=showing(turning(8, 4), *[6] * 8))

    def test_by_a_trial_of_all_words(self):
        kinds = set()
        for machine in machines():
            words = plain_words(machine)
            told = alike(machine)
            self.assertEqual(together(told), {two for two, word in words.items() if word is None})
            self.check_same(alike(machine), told)
            kinds.add((told == single(machine), told == whole(machine)))
        self.assertEqual(kinds, {(True, True), (True, False), (False, True), (False, False)})

    def test_facts(self):
        for machine in machines():
            parting = alike(machine)
            self.assertIn(parting, plain_kept(machine))
            self.assertIs(tells(machine, parting), True)
            for other in plain_kept(machine):
                if tells(machine, other):
                    self.assertLessEqual(together(other), together(parting))

    def test_great_machines(self):
        for number, machine in enumerate(great_machines()):
            for kinds in (1, 2, 10):
                dressed = strewn_shown(machine, kinds, number)
                telling = [parting for parting in plain_kept(dressed) if tells(dressed, parting)]
                self.assertIn(alike(dressed), telling)
                for other in telling:
                    self.assertLessEqual(together(other), together(alike(dressed)))


class PartingWord(Checks, unittest.TestCase):
    def test_by_hand(self):
        self.check_call((0, 0), parting_word, machine=FOUR, one=0, far=1)
        self.check_call((0, 0), parting_word, machine=FOUR, one=1, far=0)
        self.check_call((), parting_word, machine=FOUR, one=3, far=1)
        self.check_call((0,), parting_word, machine=FOUR, one=1, far=2)
        self.check_call(None, parting_word, machine=FOUR, one=2, far=2)
        self.check_call(None, parting_word, machine=ONE, one=0, far=0)
        self.check_call(None, parting_word, machine=DOUBLED, one=1, far=2)
        self.check_call((), parting_word, machine=DOUBLED, one=0, far=2)
        self.check_call((0,) * 6, parting_word, machine=FALLING, one=6, far=7)
        self.check_call((0,) * 6, parting_word, machine=FALLING, one=7, far=6)
        self.check_call((0,), parting_word, machine=FALLING, one=7, far=1)
        # The least of several, and as few letters as can be ahead of the least.
        machine = showing(leading((2, 2, 3), (2, 3, 2), (2, 2, 2), (3, 3, 3)), 0, 0, 0, 1)
        self.check_call((1,), parting_word, machine=machine, one=0, far=1)
        machine = showing(leading((2, 4), (3, 5), (4, 4), (5, 5), (4, 4), (5, 5)), 0, 0, 0, 0, 0, 1)
        self.check_call((1,), parting_word, machine=machine, one=0, far=1)

    def test_by_a_trial_of_all_words(self):
        lengths = set()
        for machine in machines():
            for (one, far), word in plain_words(machine).items():
                self.check_same(parting_word(machine, one, far), word)
                lengths.add(None if word is None else len(word))
        self.assertLessEqual({None, 0, 1, 2, 3}, lengths)

    def test_great_machines(self):
        for number, machine in enumerate(great_machines()):
            for kinds in (2, 3):
                dressed = strewn_shown(machine, kinds, number)
                words = plain_words(dressed) if len(machine[0][0]) < 3 else {}
                for two, word in words.items():
                    self.check_same(parting_word(dressed, *two), word)
                for one, far in product(range(len(machine[0])), repeat=2):
                    word = parting_word(dressed, one, far)
                    if word is None:
                        self.assertIn((one, far), together(alike(dressed)))
                    else:
                        ends = run(dressed, one, word)[-1], run(dressed, far, word)[-1]
                        self.assertNotEqual(dressed[1][ends[0]], dressed[1][ends[1]])
                        self.assertLess(len(word), len(machine[0]))


class LeastMachine(Checks, unittest.TestCase):
    def test_by_hand(self):
        self.check_call(SIX, least_machine, machine=SIX)
        self.check_call(FOUR, least_machine, machine=FOUR)
        self.check_call(ONE, least_machine, machine=ONE)
        self.check_call((((1, 1), (1, 0)), (3, 5)), least_machine, machine=DOUBLED)
        self.check_call((((0,),), (0,)), least_machine, machine=staying(4))
        self.check_call((((0, 0, 0, 0),), (6,)), least_machine, machine=showing(turning(8, 4), *[6] * 8))
        self.check_call((((1,), (0,)), (4, 2)), least_machine, machine=showing(turning(4), 4, 2, 4, 2))
        self.check_call(FALLING, least_machine, machine=FALLING)

    def test_the_blocks_are_led_and_shown_as_their_standings(self):
        for machine in [*machines(), *[strewn_shown(one, 2, 5) for one in great_machines()]]:
            table, shown = need_machine(least_machine(machine))
            parting = alike(machine)
            self.assertEqual(len(table), len(set(parting)))
            for standing, block in enumerate(parting):
                self.assertEqual(shown[block], machine[1][standing])
                self.assertEqual(table[block], tuple(parting[goal] for goal in machine[0][standing]))
            self.assertEqual(alike((table, shown)), tuple(range(len(table))))
            self.check_same(least_machine((table, shown)), (table, shown))

    def test_it_shows_the_same_by_all_words(self):
        for machine in machines()[::3]:
            least, parting = least_machine(machine), alike(machine)
            for word in words_shorter_than_standings(machine)[:60]:
                for standing, block in enumerate(parting):
                    ends = run(machine, standing, word)[-1], run(least, block, word)[-1]
                    self.assertEqual(machine[1][ends[0]], least[1][ends[1]])


class WrongArguments(Checks, unittest.TestCase):
    def test_what_is_no_machine(self):
        for thing, place in bad_machines():
            told = (BadMachine, "place", place)
            self.check_refused(*told, tells, thing, (0, 0, 0, 0))
            self.check_refused(*told, alike, thing)
            self.check_refused(*told, parting_word, thing, 0, 1)
            self.check_refused(*told, least_machine, thing)

    def test_what_is_no_parting(self):
        for wrong in ODD + [0, (), (0, 0, 0), (0, 0, 0, 2), (1, 0, 0, 0), [0, 1, 0, 1], (0, True, 0, 1)]:
            self.check_refused(BadParting, "value", wrong, tells, FOUR, wrong)
            self.check_refused(BadParting, "value", wrong, tells, parting=wrong, machine=FOUR)

    def test_what_is_no_standing(self):
        for wrong in ODD + [4, 8, (), (0,), (0, 1)]:
            self.check_refused(BadStanding, "value", wrong, parting_word, FOUR, wrong, 0)
            self.check_refused(BadStanding, "value", wrong, parting_word, FOUR, 0, wrong)
            self.check_refused(BadStanding, "value", wrong, parting_word, far=wrong, one=3, machine=FOUR)
        self.check_refused(BadStanding, "value", 1, parting_word, ONE, 1, 0)
        self.check_refused(BadStanding, "value", 1, parting_word, ONE, 0, 1)

    def test_of_several_wrong_arguments_the_first_one_is_told(self):
        machine = ("machine", FOUR, [([], BadMachine, "place", ()), ((FOUR[0], None), BadMachine, "place", (1,))])
        one = ("one", 0, [(4, BadStanding, "value", 4), (True, BadStanding, "value", True)])
        far = ("far", 1, [(-1, BadStanding, "value", -1), ("2", BadStanding, "value", "2")])
        self.check_first_error(parting_word, [machine, one, far])
        parting = ("parting", (0, 1, 0, 1), [(wrong, BadParting, "value", wrong) for wrong in (None, (0, 0))])
        self.check_first_error(tells, [machine, parting])

    def test_what_is_refused_is_as_it_was(self):
        wrong = [0, [1], {2: [3]}]
        self.assertRaises(BadParting, tells, FOUR, wrong)
        self.assertRaises(BadStanding, parting_word, FOUR, wrong, wrong)
        self.assertEqual(wrong, [0, [1], {2: [3]}])
