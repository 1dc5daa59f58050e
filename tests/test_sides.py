import unittest
from itertools import combinations, permutations, product

from keptpartings.errors import Alone, BadMachine, BadNumber, BadPaper, BadRow
from keptpartings.kept import chain, is_chain, led_table
from keptpartings.partings import all_partings, single
from keptpartings.sides import are_sides, check_split, is_split, side_partings, sides_of, split_paper
from tests.samples import (
    FOUR, ODD, ONE, SIX, Checks, at_spot, bad_machines, beside, changed, great_machines, leading, misshapen,
    otherwise, plain_kept, resetting, small_machines, spots, staying, strewn, together, turning,
)

SIX_SIDES = ((((1,), (0,)), ((1,), (2,), (0,))), ((0, 0), (1, 1), (0, 2), (1, 0), (0, 1), (1, 2)))
# Any two of its standings draw the two last ones together.
TIED = leading((2, 3), (3, 2), (2, 2), (3, 3))


class Alike:
    """A value that says that it is equal to any other one."""

    def __eq__(self, other):
        return True


def apart(machine, *partings):
    """Whether no two standings are together in all partings."""
    return set.intersection(*map(together, partings)) == together(single(machine))


def tied(machine):
    """The kept partings that are not single."""
    return [parting for parting in plain_kept(machine) if parting != single(machine)]


def plain_split(machine):
    return any(apart(machine, parting, other) for parting, other in product(tied(machine), repeat=2))


def bound_goals(machine):
    """The pairs of two standings, the lower one first, that any two standings draw together."""
    many = len(machine[0])
    return [goal for goal in combinations(range(many), 2) if all(goal in together(parting) for parting in tied(machine))]


def bound_paper(machine, goal):
    """A paper that would show that a machine is bound by these two; () for chains that are not there."""
    pairs = combinations(range(len(machine[0])), 2)
    return ("bound", *goal, tuple((pair, chain(machine, pair, goal) or ()) for pair in pairs))


def machines_of_two_or_more():
    return [machine for machine in small_machines() if len(machine[0]) > 1]


def bound_machines():
    return [machine for machine in machines_of_two_or_more() if not plain_split(machine)]


def holds(machine, value):
    """Whether tuples within tuples of numbers are sides, by the words of the document."""
    goals, _ = machine
    letters = range(len(goals[0]))
    if len(value) != 2:
        return False
    tables, places = value
    if not 1 <= len(tables) <= 4 or len(places) != len(goals):
        return False
    for table in tables:
        if not 1 <= len(table) <= 8:
            return False
        if any(len(led) != len(letters) or not set(led) <= set(range(len(table))) for led in table):
            return False
    for place in places:
        if len(place) != len(tables) or any(number >= len(table) for number, table in zip(place, tables)):
            return False
    if len(set(places)) < len(places):
        return False
    return all(
        places[goals[at][letter]] == tuple(table[number][letter] for number, table in zip(place, tables))
        for at, place in enumerate(places) for letter in letters
    )


def renumbered(sides, turn):
    """The sides with other numbers for the standings of each table."""
    tables, places = sides
    numbers = [[(at + turn) % len(table) for at in range(len(table))] for table in tables]
    new_tables = []
    for table, new in zip(tables, numbers):
        led = {new[at]: tuple(new[goal] for goal in standing) for at, standing in enumerate(table)}
        new_tables.append(tuple(led[at] for at in range(len(table))))
    return (tuple(new_tables), tuple(tuple(new[at] for at, new in zip(place, numbers)) for place in places))


def lots_of_partings(machine):
    """Lots of one to four kept partings."""
    kept = plain_kept(machine)[-6:]
    for many in (1, 2, 3, 4):
        yield from list(product(kept, repeat=many))[:: 1 if many < 3 else 11]


class SidesOf(Checks, unittest.TestCase):
    def test_by_hand(self):
        two, three = (0, 1, 0, 1, 0, 1), (0, 1, 2, 0, 1, 2)
        self.check_call(SIX_SIDES, sides_of, machine=SIX, partings=(two, three))
        tables, places = SIX_SIDES
        turned = (tables[::-1], tuple(place[::-1] for place in places))
        self.check_call(turned, sides_of, machine=SIX, partings=(three, two))
        alone = ((FOUR[0],), ((0,), (1,), (2,), (3,)))
        self.check_call(alone, sides_of, machine=FOUR, partings=((0, 1, 2, 3),))
        twice = ((FOUR[0], FOUR[0]), ((0, 0), (1, 1), (2, 2), (3, 3)))
        self.check_call(twice, sides_of, machine=FOUR, partings=((0, 1, 2, 3),) * 2)
        self.check_call(((((0,),),), ((0,),)), sides_of, machine=ONE, partings=((0,),))
        self.check_call(((((0,),),) * 4, ((0,) * 4,)), sides_of, machine=ONE, partings=((0,),) * 4)

    def test_one_to_four_kept_partings(self):
        for machine in small_machines()[::2]:
            for partings in lots_of_partings(machine):
                with self.subTest(machine=machine, partings=partings):
                    if apart(machine, *partings):
                        found = sides_of(machine, partings)
                        self.assertEqual(found[0], tuple(led_table(machine, parting) for parting in partings))
                        self.assertEqual(found[1], tuple(zip(*partings)))
                        self.assertTrue(holds(machine, found))
                        self.assertIs(are_sides(machine, found), True)
                        self.assertEqual(side_partings(machine, found), partings)
                    else:
                        self.check_refused(BadNumber, "value", partings, sides_of, machine, partings)

    def test_great_machines(self):
        for machine in great_machines():
            least = single(machine)
            for parting in plain_kept(machine)[::200]:
                found = sides_of(machine, (parting, least, parting))
                self.assertTrue(holds(machine, found))
                self.assertEqual(side_partings(machine, found), (parting, least, parting))

    def test_three_that_are_apart_only_all_together(self):
        machine = beside(beside(turning(2), turning(2)), resetting(2))
        partings = tuple(tuple(at >> bit & 1 for at in range(8)) for bit in (2, 1, 0))
        self.assertIs(are_sides(machine, sides_of(machine, partings)), True)
        for two in permutations(partings, 2):
            self.check_refused(BadNumber, "value", two, sides_of, machine, two)

    def test_any_other_value(self):
        two, three, least = (0, 1, 0, 1, 0, 1), (0, 1, 2, 0, 1, 2), (0, 1, 2, 3, 4, 5)
        wrongs = ODD + [
            0, (), (two,), (two, two), (two, (0,) * 6), least, [two, three], (least,) * 5, (two, three) * 2 + (least,),
            (least, (0, 0, 1, 1, 2, 2)), ((0, 0, 1, 1, 2, 2), least), (least, (0,) * 5), (least, [0] * 6),
            (least, (1, 0) * 3), (two, three, None), (two, (0, 1, 2, 0, True, 2)), (two, (two, three)),
        ]
        for wrong in wrongs:
            self.check_refused(BadNumber, "value", wrong, sides_of, SIX, wrong)
            self.check_refused(BadNumber, "value", wrong, sides_of, partings=wrong, machine=SIX)
        for wrong in misshapen((two, three)):
            self.check_refused(BadNumber, "value", wrong, sides_of, SIX, wrong)


class AreSides(Checks, unittest.TestCase):
    machines = [SIX, ONE, TIED, turning(2, 2), beside(turning(2), resetting(2)), strewn(5, 2, 3)]

    def told(self):
        """Told sides of one to four tables."""
        for machine in self.machines:
            least = single(machine)
            lots = [(least,), (least, least), *product(plain_kept(machine)[:-1][-3:], repeat=2)]
            lots += [(least, (0,) * len(least), least), ((0,) * len(least),) * 3 + (least,)]
            for partings in lots:
                if apart(machine, *partings):
                    yield machine, partings, sides_of(machine, partings)

    def test_by_hand(self):
        tables, places = SIX_SIDES
        self.check_call(True, are_sides, machine=SIX, value=SIX_SIDES)
        self.check_call(False, are_sides, machine=SIX, value=[tables, places])
        self.check_call(False, are_sides, machine=SIX, value=(tables[::-1], places))
        self.check_call(False, are_sides, machine=SIX, value=(tables, places[::-1]))
        self.check_call(False, are_sides, machine=SIX, value=(tables[:1], tuple(place[:1] for place in places)))
        self.check_call(False, are_sides, machine=FOUR, value=SIX_SIDES)
        # Both tables lead as they should, and still two standings have the same numbers.
        stay = ((0,), (1,))
        self.check_call(False, are_sides, machine=staying(2), value=((stay, stay), ((0, 1), (0, 1))))
        self.check_call(True, are_sides, machine=staying(2), value=((stay, stay), ((0, 1), (1, 1))))

    def test_tables_with_other_numbers(self):
        for machine, partings, sides in self.told():
            for turn in range(6):
                other = renumbered(sides, turn)
                self.assertTrue(holds(machine, other))
                self.assertIs(are_sides(machine, other), True)
                self.assertEqual(side_partings(machine, other), partings)

    def test_standings_that_nobody_has(self):
        for machine, partings, (tables, places) in self.told():
            letters = len(machine[0][0])
            for at, table in enumerate(tables):
                for more in range(1, 10 - len(table)):
                    greater = table + ((len(table) + more - 1,) * letters,) * more
                    other = (tables[:at] + (greater,) + tables[at + 1:], places)
                    self.assertIs(are_sides(machine, other), len(greater) <= 8)
                    if len(greater) <= 8:
                        self.assertEqual(side_partings(machine, other), partings)
                        # A number that no standing of the table has, where nobody is ever led by it.
                        beyond = greater[:-1] + ((0,) * (letters - 1) + (len(greater),),)
                        other = (tables[:at] + (beyond,) + tables[at + 1:], places)
                        self.assertIs(are_sides(machine, other), False)

    def test_more_tables(self):
        for machine, partings, (tables, places) in self.told():
            for more in range(5):
                other = (tables + tables[:1] * more, tuple(place + place[:1] * more for place in places))
                self.assertEqual(holds(machine, other), len(tables) + more <= 4)
                self.assertIs(are_sides(machine, other), len(tables) + more <= 4)

    def test_one_thing_otherwise_at_each_depth(self):
        for machine, _, sides in self.told():
            for other in otherwise(sides):
                self.assertIs(are_sides(machine, other), holds(machine, other), other)

    def test_one_thing_of_another_kind_at_each_depth(self):
        for machine, _, sides in self.told():
            for other in misshapen(sides):
                self.assertIs(are_sides(machine, other), False)

    def test_any_value(self):
        for value in ODD + [0, (), ((), ()), ((), ((),)), (((),), ((),)), FOUR, FOUR[0], [*SIX_SIDES], SIX_SIDES + ((),)]:
            for machine in (SIX, FOUR, ONE):
                self.assertIs(are_sides(machine, value), False)

    def test_the_letters_of_the_machine(self):
        one, two = ((((0,),),), ((0,),)), ((((0, 0),),), ((0,),))
        self.assertIs(are_sides(ONE, one), True)
        self.assertIs(are_sides(ONE, two), False)
        self.assertIs(are_sides(leading((0, 0)), one), False)
        self.assertIs(are_sides(leading((0, 0)), two), True)
        self.assertIs(are_sides(ONE, ((one[0][0], two[0][0]), ((0, 0),))), False)

    def test_the_partings_of_all_sides_are_kept_and_apart(self):
        machine = beside(turning(2), resetting(2))
        tables = [tuple((goal,) for goal in goals) for goals in product(range(2), repeat=2)]
        found = set()
        for two in product(tables, repeat=2):
            for places in permutations(list(product(range(2), repeat=2))):
                self.assertEqual(are_sides(machine, (two, places)), holds(machine, (two, places)))
                if holds(machine, (two, places)):
                    partings = side_partings(machine, (two, places))
                    self.assertLessEqual(set(partings), set(plain_kept(machine)))
                    self.assertTrue(apart(machine, *partings))
                    found.add(partings)
        even = [parting for parting in plain_kept(machine) if parting.count(0) == parting.count(1) == 2]
        self.assertEqual(found, {two for two in product(even, repeat=2) if apart(machine, *two)})


class SidePartings(Checks, unittest.TestCase):
    def test_by_hand(self):
        two, three = (0, 1, 0, 1, 0, 1), (0, 1, 2, 0, 1, 2)
        self.check_call((two, three), side_partings, machine=SIX, sides=SIX_SIDES)
        self.check_call((two, three), side_partings, machine=SIX, sides=renumbered(SIX_SIDES, 1))
        self.check_call(((0,),), side_partings, machine=ONE, sides=((((0,),),), ((0,),)))

    def test_any_other_value(self):
        wrongs = ODD + [0, (), FOUR, [*SIX_SIDES], SIX_SIDES[:1], SIX_SIDES + ((),)]
        wrongs += [other for other in otherwise(SIX_SIDES) if not holds(SIX, other)]
        wrongs += list(misshapen(SIX_SIDES))
        for wrong in wrongs:
            self.check_refused(BadRow, "value", wrong, side_partings, SIX, wrong)


class IsSplit(Checks, unittest.TestCase):
    def test_the_examples_of_the_document(self):
        self.check_call(True, is_split, machine=SIX)
        self.check_call(False, is_split, machine=FOUR)
        self.assertEqual(split_paper(FOUR)[:3], ("bound", 0, 2))

    def test_by_hand(self):
        self.check_call(False, is_split, machine=turning(2))
        self.check_call(False, is_split, machine=TIED)
        self.check_call(True, is_split, machine=staying(3))
        self.check_call(False, is_split, machine=staying(2))
        self.check_call(True, is_split, machine=beside(turning(2), turning(4)))
        self.check_call(False, is_split, machine=turning(8, 4))

    def test_two_kept_partings_by_a_trial_of_all(self):
        found = {True: 0, False: 0}
        for machine in machines_of_two_or_more() + [one for one in great_machines() if len(plain_kept(one)) < 1000]:
            self.assertIs(is_split(machine), plain_split(machine), machine)
            found[plain_split(machine)] += 1
        self.assertGreater(min(found.values()), 20)


class SplitPaper(Checks, unittest.TestCase):
    def test_by_hand(self):
        found = split_paper(SIX)
        self.assertEqual(found[0], "split")
        self.assertEqual(set(found[1:]), {(0, 1, 0, 1, 0, 1), (0, 1, 2, 0, 1, 2)})
        self.check_call(found, split_paper, machine=SIX)
        self.check_call(("bound", 0, 1, (((0, 1), ((0, 1, ()),)),)), split_paper, machine=turning(2))
        self.check_call(("bound", 0, 1, (((0, 1), ((0, 1, ()),)),)), split_paper, machine=staying(2, 4))
        self.check_call(bound_paper(FOUR, (0, 2)), split_paper, machine=FOUR)
        self.check_call(bound_paper(TIED, (2, 3)), split_paper, machine=TIED)

    def test_papers_of_both_kinds(self):
        for machine in machines_of_two_or_more() + list(great_machines()):
            with self.subTest(machine=machine):
                found = split_paper(machine)
                self.assertEqual(found[0], "split" if is_split(machine) else "bound")
                self.assertEqual(check_split(machine, found), found[0])
                if is_split(machine):
                    _, parting, other = found
                    self.assertLessEqual({parting, other}, set(tied(machine)))
                    self.assertTrue(apart(machine, parting, other))
                else:
                    self.assertEqual(found, bound_paper(machine, bound_goals(machine)[0]))

    def test_each_chain_is_as_chain_tells_it(self):
        for machine in bound_machines():
            _, low, high, chains = split_paper(machine)
            pairs = [pair for pair, _ in chains]
            self.assertEqual(pairs, sorted(combinations(range(len(machine[0])), 2)))
            for pair, links in chains:
                self.assertTrue(links)
                self.assertIs(is_chain(machine, pair, (low, high), links), True)
                self.assertEqual(links, chain(machine, pair, (low, high)))


class CheckSplit(Checks, unittest.TestCase):
    def check_word(self, word, machine, paper):
        self.check_refused(BadPaper, "word", word, check_split, machine, paper)

    def test_by_hand(self):
        two, three = (0, 1, 0, 1, 0, 1), (0, 1, 2, 0, 1, 2)
        self.check_call("split", check_split, machine=SIX, paper=("split", two, three))
        self.check_call("split", check_split, machine=SIX, paper=("split", three, two))
        self.check_call("bound", check_split, machine=FOUR, paper=bound_paper(FOUR, (0, 2)))
        self.check_call("bound", check_split, machine=FOUR, paper=bound_paper(FOUR, (1, 3)))
        self.check_word("bound", FOUR, bound_paper(FOUR, (0, 1)))
        self.check_word("split", SIX, ("split", two, two))
        self.check_word("split", SIX, ("split", two, (0, 1, 2, 3, 4, 5)))
        self.check_word("split", SIX, ("split", (0, 1, 2, 3, 4, 5), two))
        self.check_word("split", SIX, ("split", two, (0, 0, 0, 0, 0, 0)))
        self.check_word("split", SIX, ("split", two, (0, 0, 1, 1, 2, 2)))
        self.check_word("split", SIX, ("split", (0, 0, 1, 1, 2, 2), two))

    def test_the_form(self):
        two, three = (0, 1, 0, 1, 0, 1), (0, 1, 2, 0, 1, 2)
        _, low, high, chains = bound = bound_paper(FOUR, (0, 2))
        papers = ODD + [
            0, (), "split", ("split",), ("split", two), ("split", two, three, two), ("split", two, three, ()),
            ["split", two, three], ("Split", two, three), ("", two, three), (b"split", two, three), (0, two, three),
            (None, two, three), (Alike(), two, three), (Alike(), low, high, chains), (["split"], two, three), (("split",), two, three), ("bound", two, three),
            (two, three), (two, three, "split"), ("split", two, three, *[()] * 5),
            ("bound",), ("bound", low), ("bound", low, high), ("bound", low, high, chains, ()), [*bound],
            ("split", low, high, chains), ("Bound", low, high, chains), ("", low, high, chains), bound[1:],
            (b"bound", low, high, chains), (0, low, high, chains), ((), low, high, chains), ("bound", *[()] * 2000),
        ]
        for paper in papers:
            for machine in (SIX, FOUR):
                self.check_word("form", machine, paper)

    def test_all_papers_of_two_partings(self):
        for machine in [turning(4), beside(turning(2), turning(2)), staying(3), strewn(4, 2, 9), turning(2)]:
            for parting, other in product(all_partings(machine), repeat=2):
                paper = ("split", parting, other)
                if {parting, other} <= set(tied(machine)) and apart(machine, parting, other):
                    self.assertEqual(check_split(machine, paper), "split")
                else:
                    self.check_word("split", machine, paper)

    def test_all_papers_of_two_standings(self):
        for machine in machines_of_two_or_more()[::2]:
            places = range(len(machine[0]))
            for goal in product(places, repeat=2):
                paper = bound_paper(machine, goal)
                if not plain_split(machine) and goal in bound_goals(machine):
                    self.assertEqual(check_split(machine, paper), "bound")
                else:
                    self.check_word("bound", machine, paper)

    def test_never_both(self):
        for machine in machines_of_two_or_more():
            if plain_split(machine):
                self.assertEqual(bound_goals(machine), [])

    def test_other_chains_that_hold(self):
        for machine in bound_machines():
            _, low, high, chains = split_paper(machine)
            for at, (pair, links) in enumerate(chains):
                begin, end, word = links[-1]
                longer = (*links, (end, begin, word), links[-1])
                other = (*chains[:at], (pair, longer), *chains[at + 1:])
                self.assertEqual(check_split(machine, ("bound", low, high, other)), "bound")
                torn = (*chains[:at], (pair, longer[:-1]), *chains[at + 1:])
                self.check_word("bound", machine, ("bound", low, high, torn))
        # Longer than what callers pass otherwise.
        _, low, high, chains = split_paper(turning(2))
        links = ((0, 1, ()), (1, 0, ())) * 4000 + ((0, 1, ()),)
        self.assertEqual(check_split(turning(2), ("bound", 0, 1, (((0, 1), links),))), "bound")

    def test_something_otherwise_at_each_place_of_a_split_paper(self):
        for machine in (SIX, beside(turning(2), resetting(2))):
            paper = split_paper(machine)
            for spot in [spot for spot in spots(paper) if len(spot) > 0 and spot[0] > 0]:
                for other in otherwise(at_spot(paper, spot)):
                    changed_paper = changed(paper, spot, other)
                    partings = set(changed_paper[1:])
                    if partings <= set(tied(machine)) and apart(machine, *partings):
                        self.assertEqual(check_split(machine, changed_paper), "split")
                    else:
                        self.check_word("split", machine, changed_paper)
            for at in (1, 2):
                for other in misshapen(paper[at]):
                    self.check_word("split", machine, changed(paper, (at,), other))

    def test_something_otherwise_at_each_place_of_a_bound_paper(self):
        for machine in (FOUR, TIED, turning(3, 2)):
            paper = split_paper(machine)
            pairs = [pair for pair, _ in paper[3]]
            for spot in spots(paper)[1:]:
                for other in [] if spot[0] == 0 else otherwise(at_spot(paper, spot)):
                    self.check_bound(machine, pairs, changed(paper, spot, other))
            for at in (1, 2, 3):
                for other in misshapen(paper[at]):
                    self.check_word("bound", machine, changed(paper, (at,), other))

    def check_bound(self, machine, pairs, paper):
        """Judges a paper that is of numbers throughout, but perhaps of other lengths."""
        _, low, high, chains = paper
        fits = low < high < len(machine[0])
        fits = fits and all(len(entry) == 2 for entry in chains) and [entry[0] for entry in chains] == pairs
        if fits and all(is_chain(machine, pair, (low, high), links) for pair, links in chains):
            self.assertEqual(check_split(machine, paper), "bound")
        else:
            self.check_word("bound", machine, paper)

    def test_a_pair_too_few_or_too_many_or_in_another_order(self):
        _, low, high, chains = split_paper(FOUR)
        turned = tuple(((pair[1], pair[0]), links) for pair, links in chains)
        alike = (((0, 0), ()), *chains)
        for other in [(), chains[1:], chains[:-1], chains[::-1], chains + chains[-1:], turned, alike, dict(chains)]:
            self.check_word("bound", FOUR, ("bound", low, high, other))
        self.check_word("bound", FOUR, ("bound", high, low, bound_paper(FOUR, (high, low))[3]))
        self.check_word("bound", FOUR, ("bound", low, low, bound_paper(FOUR, (low, low))[3]))

    def test_true_is_no_number(self):
        first, *rest = bound_paper(FOUR, (1, 3))[3]
        self.check_word("bound", FOUR, ("bound", True, 3, (first, *rest)))
        self.check_word("bound", FOUR, ("bound", 1, 3, (((0, True), first[1]), *rest)))
        self.check_word("bound", FOUR, ("bound", 1, 3, (((False, 1), first[1]), *rest)))


class WrongArguments(Checks, unittest.TestCase):
    def test_what_is_no_machine(self):
        for thing, place in bad_machines():
            told = (BadMachine, "place", place)
            self.check_refused(*told, sides_of, thing, ((0, 1, 2, 3),))
            for call in (are_sides, side_partings):
                self.check_refused(*told, call, thing, SIX_SIDES)
            for call in (is_split, split_paper):
                self.check_refused(*told, call, thing)
            self.check_refused(*told, check_split, thing, None)
            self.check_refused(*told, check_split, thing, ("split", (0, 0), (0, 0)))

    def test_a_machine_with_one_standing(self):
        for machine in (ONE, leading((0, 0, 0, 0)), (((0, 0),), (9,))):
            for call in (is_split, split_paper):
                self.assertRaises(Alone, call, machine)
                self.assertRaises(Alone, call, machine=machine)
            for paper in ODD + [(), ("split", (0,), (0,)), ("bound", 0, 0, ()), ("bound", 0, 1, ())]:
                self.assertRaises(Alone, check_split, machine, paper)
                self.assertRaises(Alone, check_split, paper=paper, machine=machine)
        self.check_refused(BadMachine, "place", (1, 0), is_split, (((0,),), (10,)))
        self.check_refused(BadMachine, "place", (0, 0, 0), split_paper, (((1,),), (0,)))
        self.check_refused(BadMachine, "place", (1,), check_split, (((0,),), ()), None)

    def test_of_several_wrong_arguments_the_first_one_is_told(self):
        machine = ("machine", SIX, [([], BadMachine, "place", ()), ((SIX[0], None), BadMachine, "place", (1,))])
        two, three = (0, 1, 0, 1, 0, 1), (0, 1, 2, 0, 1, 2)
        lots = [(wrong, BadNumber, "value", wrong) for wrong in (None, (), (two, two))]
        self.check_first_error(sides_of, [machine, ("partings", (two, three), lots)])
        self.check_first_error(are_sides, [machine, ("value", SIX_SIDES, [])])
        self.check_first_error(side_partings, [machine, ("sides", SIX_SIDES, [([], BadRow, "value", [])])])
        papers = [(None, BadPaper, "word", "form"), (("split", 0, 0), BadPaper, "word", "split")]
        papers.append((("bound", 0, 0, 0), BadPaper, "word", "bound"))
        self.check_first_error(check_split, [machine, ("paper", ("split", two, three), papers)])

    def test_what_is_refused_is_as_it_was(self):
        wrong = ("split", [0], {2: [3]})
        self.assertRaises(BadNumber, sides_of, FOUR, wrong)
        self.assertRaises(BadRow, side_partings, FOUR, wrong)
        self.assertRaises(BadPaper, check_split, FOUR, wrong)
        self.assertEqual(wrong, ("split", [0], {2: [3]}))
