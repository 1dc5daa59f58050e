import unittest
from itertools import product

from keptpartings.errors import BadMachine, BadNumber, BadParting, BadStanding
from keptpartings.kept import chain, drawn, is_chain, is_kept, kept_partings, least_kept, led_table
from keptpartings.machines import need_machine
from keptpartings.partings import all_partings, is_finer, join, meet, single, whole
from tests.samples import (
    FOUR, ODD, ONE, SIX, Checks, at_spot, bad_machines, beside, changed, great_machines, leading, misshapen,
    otherwise, plain_kept, resetting, small_machines, spots, staying, strewn, together, turning,
)

# 0 and 1 draw all together, 2 and 3 only one another.
FORK = leading((2, 0), (3, 2), (2, 2), (3, 3))


def standings_of(machine):
    return range(len(machine[0]))


def twos(machine):
    """Any two standings in either order, also a standing and itself."""
    return list(product(standings_of(machine), repeat=2))


def drawn_together(machine, pair, goal):
    """Whether pair draws goal together, by the words of the document."""
    kept = [together(parting) for parting in plain_kept(machine)]
    return all(goal in pairs for pairs in kept if pair in pairs)


def word_lengths(machine, pair):
    """For each FROM and TO of a link of the pair how long the shortest word is, found word length by word length."""
    table = machine[0]
    lengths = {}
    level = {pair, pair[::-1]}
    for length in range(len(table) ** 2 + 1):
        for ends in level:
            lengths.setdefault(ends, length)
        level = {led for one, far in level for led in zip(table[one], table[far])}
    return lengths


def fewest_links(lengths, goal):
    """With how few links one gets from the one of goal to the other one; None if one does not."""
    reached = {goal[0]}
    for many in range(9):
        if goal[1] in reached:
            return many
        reached |= {end for begin, end in lengths if begin in reached}
    return None


def led_by(machine, standing, word):
    for letter in word:
        standing = machine[0][standing][letter]
    return standing


def holds(machine, pair, goal, value):
    """Whether a tuple of tuples of numbers is a chain, by the words of the document."""
    letters = range(len(machine[0][0]))
    for link in value:
        if not isinstance(link, tuple) or len(link) != 3 or not isinstance(link[2], tuple) or len(link[2]) > 400:
            return False
        begin, end, word = link
        if not all(letter in letters for letter in word):
            return False
        led = [led_by(machine, standing, word) for standing in pair]
        if [begin, end] not in (led, led[::-1]):
            return False
    if not value:
        return goal[0] == goal[1]
    if any(link[0] != ahead[1] for ahead, link in zip(value, value[1:])):
        return False
    return value[0][0] == goal[0] and value[-1][1] == goal[1]


class KeptPartings(Checks, unittest.TestCase):
    def test_the_examples_of_the_document(self):
        by_hand = ((0, 0, 0, 0, 0, 0), (0, 1, 0, 1, 0, 1), (0, 1, 2, 0, 1, 2), (0, 1, 2, 3, 4, 5))
        self.check_call(by_hand, kept_partings, machine=SIX)
        self.check_call(((0, 0, 0, 0), (0, 1, 0, 1), (0, 1, 2, 3)), kept_partings, machine=FOUR)

    def test_by_hand(self):
        self.check_call(((0,),), kept_partings, machine=ONE)
        self.check_call(((0,),), kept_partings, machine=leading((0, 0, 0, 0)))
        self.check_call(((0, 0), (0, 1)), kept_partings, machine=turning(2))
        self.check_call(((0, 0, 0), (0, 0, 1), (0, 1, 2)), kept_partings, machine=leading((0, 1), (1, 0), (0, 2)))
        # Each letter is heeded, not the first one alone.
        self.check_call(((0, 0, 0), (0, 1, 2)), kept_partings, machine=leading((0, 1), (0, 2), (0, 0)))

    def test_all_are_kept_by_machines_that_stay_or_are_reset(self):
        for standings in range(1, 7):
            for letters in (1, 4):
                for make in (staying, resetting):
                    machine = make(standings, letters)
                    self.assertEqual(kept_partings(machine), all_partings(machine))

    def test_a_plain_trial_of_all_partings(self):
        for machine in small_machines() + great_machines():
            with self.subTest(machine=machine):
                found = kept_partings(machine)
                self.check_same(found, plain_kept(machine))
                self.assertTrue(all(one < far for one, far in zip(found, found[1:])))
                for parting in all_partings(machine):
                    self.assertIs(is_kept(machine, parting), parting in plain_kept(machine))

    def test_the_facts(self):
        for machine in small_machines():
            kept = set(kept_partings(machine))
            self.assertLessEqual({single(machine), whole(machine)}, kept)
            for parting, other in product(sorted(kept)[::3], kept):
                self.assertLessEqual({meet(machine, parting, other), join(machine, parting, other)}, kept)

    def test_each_kept_one_is_the_join_of_drawn_ones(self):
        for machine in small_machines():
            for parting in kept_partings(machine):
                joined = single(machine)
                for one, far in together(parting):
                    joined = join(machine, joined, drawn(machine, one, far))
                self.assertEqual(joined, parting)


class IsKept(Checks, unittest.TestCase):
    def test_by_hand(self):
        self.check_call(True, is_kept, machine=SIX, parting=(0, 1, 2, 0, 1, 2))
        self.check_call(False, is_kept, machine=SIX, parting=(0, 0, 1, 1, 2, 2))
        self.check_call(False, is_kept, machine=FOUR, parting=(0, 1, 0, 2))
        self.check_call(True, is_kept, machine=ONE, parting=(0,))
        # The last letter alone leads apart what is together.
        self.check_call(False, is_kept, machine=leading((0, 0, 0), (0, 0, 1), (2, 2, 2)), parting=(0, 1, 1))
        self.check_call(False, is_kept, machine=leading((0, 0, 0, 0), (0, 0, 0, 2), (2, 2, 2, 2)), parting=(0, 0, 1))


class Drawn(Checks, unittest.TestCase):
    def test_by_hand(self):
        self.check_call((0, 1, 0, 1, 0, 1), drawn, machine=SIX, one=0, far=2)
        self.check_call((0, 1, 2, 0, 1, 2), drawn, machine=SIX, one=4, far=1)
        self.check_call((0, 0, 0, 0, 0, 0), drawn, machine=SIX, one=5, far=0)
        self.check_call((0, 1, 2, 3), drawn, machine=FOUR, one=3, far=3)
        self.check_call((0,), drawn, machine=ONE, one=0, far=0)
        self.check_call((0, 0, 0, 0), drawn, machine=FORK, one=0, far=1)
        self.check_call((0, 1, 2, 2), drawn, machine=FORK, one=2, far=3)

    def test_the_finest_kept_one_by_a_trial_of_all(self):
        for machine in small_machines() + great_machines():
            kept = [(parting, together(parting)) for parting in plain_kept(machine)]
            for one, far in twos(machine)[:: 1 if len(kept) < 1000 else 9]:
                with self.subTest(machine=machine, one=one, far=far):
                    found = drawn(machine, one, far)
                    fit = [pairs for _, pairs in kept if (one, far) in pairs]
                    self.assertIn((found, set.intersection(*fit)), kept)

    def test_alike_ones_draw_nothing_together(self):
        for machine in small_machines():
            for at in standings_of(machine):
                self.assertEqual(drawn(machine, at, at), single(machine))


class LeastKept(Checks, unittest.TestCase):
    def test_by_hand(self):
        self.check_call((0, 1, 0, 1, 0, 1), least_kept, machine=SIX, parting=(0, 1, 0, 2, 3, 4))
        self.check_call((0, 0, 0, 0, 0, 0), least_kept, machine=SIX, parting=(0, 1, 0, 2, 3, 0))
        self.check_call((0, 1, 2, 0, 1, 2), least_kept, machine=SIX, parting=(0, 1, 2, 0, 1, 2))
        self.check_call((0,), least_kept, machine=ONE, parting=(0,))
        # What is put together draws on what is together only by another block.
        ladder = leading((1,), (2,), (3,), (4,), (4,), (6,), (3,))
        self.check_call((0, 1, 2, 3, 3, 2, 3), least_kept, machine=ladder, parting=(0, 1, 2, 3, 4, 2, 5))

    def test_the_finest_kept_one_by_a_trial_of_all(self):
        for machine in small_machines() + great_machines()[:2]:
            kept = [(parting, together(parting)) for parting in plain_kept(machine)]
            partings = all_partings(machine)
            for parting in partings[:: 1 + len(partings) // 60]:
                with self.subTest(machine=machine, parting=parting):
                    found = least_kept(machine, parting)
                    fit = [pairs for _, pairs in kept if together(parting) <= pairs]
                    self.assertIn((found, set.intersection(*fit)), kept)
                    self.assertIs(is_finer(machine, parting, found), True)

    def test_a_kept_one_is_its_own(self):
        for machine in small_machines():
            for parting in plain_kept(machine):
                self.assertEqual(least_kept(machine, parting), parting)


class LedTable(Checks, unittest.TestCase):
    def test_by_hand(self):
        self.check_call(((1,), (0,)), led_table, machine=SIX, parting=(0, 1, 0, 1, 0, 1))
        self.check_call(((1,), (2,), (0,)), led_table, machine=SIX, parting=(0, 1, 2, 0, 1, 2))
        self.check_call(((0,),), led_table, machine=SIX, parting=(0,) * 6)
        self.check_call(FORK[0], led_table, machine=FORK, parting=(0, 1, 2, 3))
        self.check_call(((2, 0), (2, 2), (2, 2)), led_table, machine=FORK, parting=(0, 1, 2, 2))

    def test_each_block_is_led_as_its_standings(self):
        for machine in small_machines() + great_machines()[:3]:
            table, _ = machine
            for parting in plain_kept(machine)[:200]:
                found = led_table(machine, parting)
                self.assertEqual(len(found), len(set(parting)))
                for at, block in enumerate(parting):
                    self.assertEqual(found[block], tuple(parting[goal] for goal in table[at]))
                other = (found, (0,) * len(found))
                self.assertIs(need_machine(other), other)

    def test_one_that_is_not_kept_is_refused(self):
        for machine in small_machines():
            for parting in all_partings(machine)[:60]:
                if parting not in plain_kept(machine):
                    self.check_refused(BadParting, "value", parting, led_table, machine, parting)
                    self.check_refused(BadParting, "value", parting, led_table, parting=parting, machine=machine)


class Chain(Checks, unittest.TestCase):
    def test_by_hand(self):
        self.check_call((), chain, machine=FOUR, pair=(0, 2), goal=(1, 1))
        self.check_call((), chain, machine=FOUR, pair=(3, 3), goal=(1, 1))
        self.check_call(None, chain, machine=FOUR, pair=(0, 2), goal=(0, 1))
        self.check_call(None, chain, machine=FOUR, pair=(3, 3), goal=(3, 1))
        self.check_call(((0, 2, ()),), chain, machine=FOUR, pair=(0, 2), goal=(0, 2))
        self.check_call(((2, 0, ()),), chain, machine=FOUR, pair=(0, 2), goal=(2, 0))
        self.check_call(((2, 0, ()),), chain, machine=FOUR, pair=(2, 0), goal=(2, 0))
        self.check_call(((0, 3, (0, 0, 0)),), chain, machine=FOUR, pair=(0, 1), goal=(0, 3))
        # Over 2 or over 0: which one is not told, only that equal calls give equal chains.
        found = chain(FOUR, (0, 1), (3, 1))
        self.assertIn(found, [((3, 2, (0, 0)), (2, 1, (0,))), ((3, 0, (0, 0, 0)), (0, 1, ()))])
        self.check_call(found, chain, machine=FOUR, pair=(0, 1), goal=(3, 1))
        self.check_call((), chain, machine=ONE, pair=(0, 0), goal=(0, 0))
        self.check_call(((3, 2, (0,)),), chain, machine=FORK, pair=(0, 1), goal=(3, 2))
        self.check_call(((0, 2, (1,)), (2, 3, (0,))), chain, machine=FORK, pair=(0, 1), goal=(0, 3))

    def test_a_plain_search(self):
        for machine in small_machines()[::2] + great_machines()[:3]:
            for pair in twos(machine):
                lengths = word_lengths(machine, pair)
                for goal in twos(machine):
                    with self.subTest(machine=machine, pair=pair, goal=goal):
                        self.check_chain(machine, pair, goal, lengths)

    def check_chain(self, machine, pair, goal, lengths):
        found = chain(machine, pair, goal)
        fewest = fewest_links(lengths, goal)
        if fewest is None:
            self.assertIsNone(found)
            return
        self.assertTrue(holds(machine, pair, goal, found))
        self.assertEqual(len(found), fewest)
        for begin, end, word in found:
            self.assertEqual(len(word), lengths[begin, end])
        self.assertIs(is_chain(machine, pair, goal, found), True)

    def test_there_is_one_exactly_if_the_goal_is_drawn_together(self):
        for machine in small_machines() + great_machines()[:3]:
            for pair in twos(machine)[::2]:
                for goal in twos(machine)[::3]:
                    there = chain(machine, pair, goal) is not None
                    self.assertEqual(there, drawn_together(machine, pair, goal), (machine, pair, goal))

    def test_long_words(self):
        # Two letters that turn and swap lead a pair over all others.
        machine = leading(*[((at + 1) % 8, {0: 1, 1: 0}.get(at, at)) for at in range(8)])
        lengths = word_lengths(machine, (0, 1))
        self.assertGreater(max(lengths.values()), 6)
        for goal in twos(machine):
            self.check_chain(machine, (0, 1), goal, lengths)


class IsChain(Checks, unittest.TestCase):
    machines = [FOUR, FORK, turning(5, 2), beside(turning(2), turning(3)), strewn(6, 2, 5), leading((1, 0), (0, 0))]

    def told(self):
        """Told chains, with the machine, the pair and the goal."""
        for machine in self.machines:
            for pair in twos(machine)[::2]:
                for goal in twos(machine)[::3]:
                    found = chain(machine, pair, goal)
                    if found is not None:
                        yield machine, pair, goal, found

    def test_by_hand(self):
        link, other = (3, 2, (0, 0)), (2, 1, (0,))
        self.check_call(True, is_chain, machine=FOUR, pair=(0, 1), goal=(3, 1), value=(link, other))
        self.check_call(True, is_chain, machine=FOUR, pair=(1, 0), goal=(3, 1), value=(link, other))
        self.check_call(False, is_chain, machine=FOUR, pair=(0, 1), goal=(1, 3), value=(link, other))
        self.check_call(False, is_chain, machine=FOUR, pair=(0, 1), goal=(3, 1), value=(other, link))
        self.check_call(False, is_chain, machine=FOUR, pair=(0, 1), goal=(3, 1), value=(link,))
        self.check_call(False, is_chain, machine=FOUR, pair=(0, 1), goal=(3, 1), value=(other,))
        self.check_call(False, is_chain, machine=FOUR, pair=(0, 2), goal=(3, 1), value=(link, other))
        self.check_call(False, is_chain, machine=FOUR, pair=(0, 1), goal=(3, 1), value=())
        self.check_call(True, is_chain, machine=FOUR, pair=(0, 1), goal=(3, 3), value=())
        self.check_call(True, is_chain, machine=FOUR, pair=(1, 1), goal=(3, 3), value=())
        self.check_call(False, is_chain, machine=FOUR, pair=(0, 1), goal=(3, 1), value=None)
        self.check_call(False, is_chain, machine=FOUR, pair=(0, 1), goal=(3, 1), value=[link, other])

    def test_one_thing_otherwise_at_each_place(self):
        for machine, pair, goal, value in list(self.told())[::4]:
            for other in otherwise(value):
                self.assertIs(is_chain(machine, pair, goal, other), holds(machine, pair, goal, other), other)

    def test_one_thing_of_another_kind_at_each_place(self):
        for machine, pair, goal, value in list(self.told())[::16]:
            for other in misshapen(value):
                self.assertIs(is_chain(machine, pair, goal, other), False)

    def test_true_and_false_are_no_numbers(self):
        for spot in spots((3, 0, (0, 0, 0)))[1:]:
            link = changed((3, 0, (0, 0, 0)), spot, False)
            self.assertIs(is_chain(FOUR, (0, 1), (3, 0), (link,)), False)
        self.assertIs(is_chain(FOUR, (0, 1), (0, 1), ((0, True, ()),)), False)
        self.assertIs(is_chain(FOUR, (0, 1), (0, 1), ((False, 1, ()),)), False)

    def test_longer_chains_that_go_round(self):
        for machine, pair, goal, value in self.told():
            if value:
                begin, end, word = value[-1]
                back, again = (end, begin, word), value[-1]
                self.assertIs(is_chain(machine, pair, goal, (*value, back, again)), True)
                self.assertIs(is_chain(machine, pair, goal, (*value, *(back, again) * 50)), True)
                self.assertIs(is_chain(machine, pair, goal, (*value, back)), goal[1] == begin)
                self.assertIs(is_chain(machine, pair, goal, (*value, again)), begin == end)

    def test_a_chain_may_come_back_to_where_it_began(self):
        there, back = (0, 2, ()), (2, 0, (0, 0))
        self.check_call(True, is_chain, machine=FOUR, pair=(0, 2), goal=(0, 0), value=(there, back))
        self.check_call(False, is_chain, machine=FOUR, pair=(0, 2), goal=(1, 1), value=(there, back))

    def test_words_need_not_be_short(self):
        word = (0,) * 400
        self.assertIs(is_chain(FOUR, (0, 1), (0, 1), ((0, 1, word),)), True)
        self.assertIs(is_chain(FOUR, (0, 1), (0, 1), ((0, 1, word[4:]),)), True)
        self.assertIs(is_chain(FOUR, (0, 1), (0, 1), ((0, 1, word + word[:4]),)), False)

    def test_links_that_lead_to_one_standing(self):
        machine = leading((1, 0), (0, 0))
        self.assertIs(is_chain(machine, (0, 1), (0, 1), ((0, 0, (1,)), (0, 1, ()))), True)
        self.assertIs(is_chain(machine, (0, 0), (1, 1), ((1, 1, (0,)),)), True)
        self.assertIs(is_chain(machine, (0, 0), (0, 1), ((0, 1, (0,)),)), False)

    def test_any_value(self):
        for value in ODD + [0, 1, "", [], [()], ((),), ((), ()), (((), (), ()),), (0, 1, ()), ((0, 1),), ((0, 1, 0),)]:
            for goal in twos(FOUR):
                self.assertIs(is_chain(FOUR, (0, 1), goal, value), False)
            self.assertIs(is_chain(ONE, (0, 0), (0, 0), value), False)

    def test_a_value_of_many_things(self):
        link = (0, 1, ())
        self.assertIs(is_chain(FOUR, (0, 1), (0, 1), (link, link[1::-1] + ((),)) * 2400 + (link,)), True)
        self.assertIs(is_chain(FOUR, (0, 1), (0, 1), (0,) * 20000), False)
        deep = ()
        for _ in range(49):
            deep = (deep,)
        self.assertIs(is_chain(FOUR, (0, 1), (0, 1), deep), False)
        self.assertIs(is_chain(FOUR, (0, 1), (0, 1), ((0, 1, deep),)), False)


class WrongArguments(Checks, unittest.TestCase):
    def test_what_is_no_machine(self):
        for thing, place in bad_machines():
            told = (BadMachine, "place", place)
            self.check_refused(*told, kept_partings, thing)
            self.check_refused(*told, drawn, thing, 0, 1)
            for call in (is_kept, least_kept, led_table):
                self.check_refused(*told, call, thing, (0, 0, 0, 0))
            self.check_refused(*told, chain, thing, (0, 1), (0, 1))
            self.check_refused(*told, is_chain, thing, (0, 1), (0, 1), ())

    def test_what_is_no_parting(self):
        for wrong in ODD + [0, (), (0, 0, 0), (0, 0, 0, 0, 0), (0, 0, 0, 2), (1, 0, 0, 0), [0, 1, 0, 1], (0, True, 0, 1)]:
            for call in (is_kept, least_kept, led_table):
                self.check_refused(BadParting, "value", wrong, call, FOUR, wrong)
                self.check_refused(BadParting, "value", wrong, call, parting=wrong, machine=FOUR)

    def test_what_is_no_standing(self):
        for wrong in ODD + [4, 8, (), (0,), (0, 1)]:
            self.check_refused(BadStanding, "value", wrong, drawn, FOUR, wrong, 0)
            self.check_refused(BadStanding, "value", wrong, drawn, FOUR, 0, wrong)
            self.check_refused(BadStanding, "value", wrong, drawn, far=wrong, one=3, machine=FOUR)
        self.check_refused(BadStanding, "value", 1, drawn, ONE, 1, 0)
        self.check_refused(BadStanding, "value", 1, drawn, ONE, 0, 1)

    def test_what_is_no_pair_of_standings(self):
        wrongs = [*misshapen((0, 1)), (), (0,), (0, 1, 2), (0, 4), (4, 0), 0, 1, [0, 1], "01", {0: 1}, ((0, 1),), FOUR]
        for wrong in wrongs:
            told = (BadNumber, "value", wrong)
            self.check_refused(*told, chain, FOUR, wrong, (0, 1))
            self.check_refused(*told, chain, FOUR, (0, 1), wrong)
            self.check_refused(*told, is_chain, FOUR, wrong, (0, 1), ())
            self.check_refused(*told, is_chain, FOUR, (0, 1), wrong, ())

    def test_of_several_wrong_arguments_the_first_one_is_told(self):
        machine = ("machine", FOUR, [([], BadMachine, "place", ()), ((FOUR[0], None), BadMachine, "place", (1,))])
        wrongs = [(wrong, BadParting, "value", wrong) for wrong in (None, (0, 0))]
        for call in (is_kept, least_kept):
            self.check_first_error(call, [machine, ("parting", (0, 1, 0, 1), wrongs)])
        wrongs.append(((0, 0, 1, 1), BadParting, "value", (0, 0, 1, 1)))
        self.check_first_error(led_table, [machine, ("parting", (0, 1, 0, 1), wrongs)])
        one = ("one", 0, [(4, BadStanding, "value", 4), (True, BadStanding, "value", True)])
        far = ("far", 1, [(-1, BadStanding, "value", -1), ("2", BadStanding, "value", "2")])
        self.check_first_error(drawn, [machine, one, far])
        pair = ("pair", (0, 1), [((0, 4), BadNumber, "value", (0, 4)), ([0], BadNumber, "value", [0])])
        goal = ("goal", (2, 3), [((0, 5), BadNumber, "value", (0, 5)), (None, BadNumber, "value", None)])
        self.check_first_error(chain, [machine, pair, goal])
        self.check_first_error(is_chain, [machine, pair, goal, ("value", (), [])])
        self.check_refused(BadNumber, "value", (0, 5), is_chain, FOUR, (0, 1), (0, 5), None)

    def test_what_is_refused_is_as_it_was(self):
        wrong = [0, [1], {2: [3]}]
        self.assertRaises(BadParting, led_table, FOUR, wrong)
        self.assertRaises(BadNumber, chain, FOUR, wrong, wrong)
        self.assertIs(is_chain(FOUR, (0, 1), (0, 1), (wrong,)), False)
        self.assertEqual(wrong, [0, [1], {2: [3]}])
