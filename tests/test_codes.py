import unittest
from functools import lru_cache
from itertools import combinations, product

from keptpartings.codes import best_code, cost, hangs, is_code, lots
from keptpartings.errors import BadCode, BadMachine, BadNumber
from keptpartings.partings import all_partings, single
from tests.samples import (
    FOUR, ODD, ONE, SIX, Checks, bad_machines, beside, great_machines, leading, misshapen, otherwise, resetting,
    small_machines, staying, strewn, together, turning,
)

LOW, HIGH, EVEN = (0, 0, 1, 1), (0, 1, 1, 0), (0, 1, 0, 1)
CODE = (LOW, HIGH)


def halves(machine):
    """The partings with two blocks."""
    return [parting for parting in all_partings(machine) if set(parting) == {0, 1}]


def apart(machine, bits):
    """Whether no two standings are together in all of the bits."""
    return all(
        any(bit[one] != bit[far] for bit in bits)
        for one, far in combinations(range(len(machine[0])), 2)
    )


@lru_cache(maxsize=None)
def codes(machine):
    """All codes of a machine, by the words of the document."""
    return tuple(
        bits for many in range(4) for bits in product(halves(machine), repeat=many) if apart(machine, bits)
    )


def plain_hangs(machine, bits, bit):
    """Whether a bit hangs on some bits, by a look at all pairs of standings and all letters."""
    table, _ = machine
    return all(
        bit[goal] == bit[led]
        for one, far in combinations(range(len(table)), 2) if all(other[one] == other[far] for other in bits)
        for goal, led in zip(table[one], table[far])
    )


def every_lot(many):
    """The ascending tuples of numbers of so many bits, the least one first."""
    return [lot for length in range(many + 1) for lot in combinations(range(many), length)]


def plain_lots(machine, code):
    return tuple(
        next(lot for lot in every_lot(len(code)) if plain_hangs(machine, [code[at] for at in lot], bit))
        for bit in code
    )


def plain_cost(machine, code):
    return sum(map(len, plain_lots(machine, code)))


def plain_best(machine, found):
    """The best one of codes."""
    fewest = min(map(len, found))
    return min((code for code in found if len(code) == fewest), key=lambda code: (plain_cost(machine, code), code))


@lru_cache(maxsize=None)
def machines():
    """Machines of all kinds, each with four standings at the most."""
    return tuple(machine for machine in small_machines() if len(machine[0]) <= 4)


class IsCode(Checks, unittest.TestCase):
    def test_by_hand(self):
        self.check_call(True, is_code, machine=FOUR, value=CODE)
        self.check_call(True, is_code, machine=FOUR, value=(HIGH, LOW))
        self.check_call(True, is_code, machine=FOUR, value=(LOW, HIGH, EVEN))
        self.check_call(True, is_code, machine=FOUR, value=(LOW, LOW, HIGH))
        self.check_call(False, is_code, machine=FOUR, value=(LOW, LOW))
        self.check_call(False, is_code, machine=FOUR, value=(LOW,))
        self.check_call(False, is_code, machine=FOUR, value=())
        self.check_call(False, is_code, machine=FOUR, value=(LOW, HIGH, EVEN, EVEN))
        self.check_call(False, is_code, machine=FOUR, value=(LOW, HIGH, (0, 0, 0, 0)))
        self.check_call(False, is_code, machine=FOUR, value=(LOW, HIGH, (0, 0, 1, 2)))
        self.check_call(False, is_code, machine=FOUR, value=((0, 1, 2, 3),))
        self.check_call(True, is_code, machine=ONE, value=())
        self.check_call(False, is_code, machine=ONE, value=((0,),))
        self.check_call(True, is_code, machine=turning(2), value=((0, 1),))
        self.check_call(True, is_code, machine=turning(2), value=((0, 1),) * 3)
        self.check_call(False, is_code, machine=turning(2), value=((0, 1),) * 4)
        self.check_call(False, is_code, machine=turning(2), value=())
        self.check_call(False, is_code, machine=SIX, value=((0, 0, 0, 1, 1, 1), (0, 0, 1, 1, 0, 0)))

    def test_all_tuples_of_partings(self):
        for machine, most in [(ONE, 4), (turning(2), 4), (turning(3), 4), (FOUR, 3)]:
            told = 0
            for many in range(most + 1):
                for value in product(all_partings(machine), repeat=many):
                    self.check_same(is_code(machine, value), value in codes(machine))
                    told += is_code(machine, value)
            self.assertEqual(told, len(codes(machine)))

    def test_codes_of_greater_machines(self):
        for machine in great_machines():
            many = len(machine[0])
            bits = tuple(tuple(at >> step & 1 for at in range(many)) for step in range(3))
            self.assertIs(is_code(machine, bits), True)
            self.assertIs(is_code(machine, bits[:2]), False)
            self.assertIs(is_code(machine, (bits[0], bits[1], bits[1])), False)
            self.assertIs(is_code(machine, (*bits, bits[0])), False)

    def test_any_value(self):
        values = ODD + [0, 1, [LOW, HIGH], (list(LOW), HIGH), (LOW, "0110"), {LOW: HIGH}, (LOW, 0), LOW, "", [()], ((),)]
        values += [(LOW, (0, True, True, 0)), (LOW, (False, 1, 1, 0)), (LOW, (1, 0, 0, 1)), (LOW, (0, 2, 2, 0))]
        values += [(LOW, HIGH) * 5000, (LOW,) * 5000, (0,) * 20000]
        for value in values:
            for machine in (FOUR, ONE, turning(2)):
                self.assertIs(is_code(machine, value), False, value)
        for value in misshapen(CODE):
            self.assertIs(is_code(FOUR, value), False)
        for value in otherwise(CODE):
            self.assertIs(is_code(FOUR, value), value in codes(FOUR))
        deep = ()
        for _ in range(48):
            deep = (deep,)
        for value in (deep, (LOW, deep), (LOW, HIGH, deep)):
            self.assertIs(is_code(FOUR, value), False)


class Lots(Checks, unittest.TestCase):
    def test_by_hand(self):
        self.check_call(((1,), (0,)), lots, machine=FOUR, code=CODE)
        self.check_call(((1,), (0,)), lots, machine=FOUR, code=(HIGH, LOW))
        self.check_call(((0,), (0, 1)), lots, machine=FOUR, code=(EVEN, LOW))
        self.check_call(((0, 1), (1,)), lots, machine=FOUR, code=(LOW, EVEN))
        # Of lots with one number the least one, of alike bits the first one.
        self.check_call(((0,), (0,), (2,)), lots, machine=staying(4), code=(LOW, LOW, EVEN))
        self.check_call(((2,), (2,), (0,)), lots, machine=FOUR, code=(LOW, LOW, HIGH))
        self.check_call(((), ()), lots, machine=resetting(4, 4), code=(LOW, HIGH))
        self.check_call((), lots, machine=ONE, code=())
        self.check_call(((0,),), lots, machine=turning(2), code=((0, 1),))
        self.check_call(((0,), (0,), (0,)), lots, machine=turning(2), code=((0, 1),) * 3)
        self.check_call(((),), lots, machine=resetting(2), code=((0, 1),))

    def test_fewer_numbers_are_less(self):
        """The lot (2,) goes before (0, 1)."""
        machine, code = turning(3), ((0, 0, 1), (0, 1, 1), (0, 1, 0))
        self.check_same(lots(machine, code), plain_lots(machine, code))
        found = {lot for machine in machines() for code in codes(machine)[-60:] for lot in lots(machine, code)}
        self.assertLessEqual(set(every_lot(3)) - {(0, 1, 2)}, found)

    def test_all_codes_of_small_machines(self):
        for machine in machines():
            found = codes(machine)
            for code in found[::1 + len(found) // 60]:
                self.check_same(lots(machine, code), plain_lots(machine, code))
                self.check_same(cost(machine, code), plain_cost(machine, code))

    def test_codes_of_greater_machines(self):
        for machine in great_machines():
            for code in [best_code(machine), best_code(machine)[::-1]]:
                self.check_same(lots(machine, code), plain_lots(machine, code))
                self.check_same(cost(machine, code), plain_cost(machine, code))


class Cost(Checks, unittest.TestCase):
    def test_by_hand(self):
        self.check_call(2, cost, machine=FOUR, code=CODE)
        self.check_call(3, cost, machine=FOUR, code=(EVEN, LOW))
        self.check_call(3, cost, machine=FOUR, code=(LOW, HIGH, HIGH))
        self.check_call(0, cost, machine=ONE, code=())
        self.check_call(0, cost, machine=resetting(4, 4), code=CODE)
        self.check_call(3, cost, machine=staying(6), code=((0, 0, 0, 0, 1, 1), (0, 0, 1, 1, 0, 0), (0, 1, 0, 1, 0, 1)))


class Hangs(Checks, unittest.TestCase):
    def test_by_hand(self):
        self.check_call(True, hangs, machine=FOUR, code=CODE, number=0, lot=(1,))
        self.check_call(False, hangs, machine=FOUR, code=CODE, number=0, lot=(0,))
        self.check_call(False, hangs, machine=FOUR, code=CODE, number=0, lot=())
        self.check_call(True, hangs, machine=FOUR, code=CODE, number=0, lot=(0, 1))
        self.check_call(True, hangs, machine=FOUR, code=CODE, number=1, lot=(0,))
        self.check_call(False, hangs, machine=FOUR, code=CODE, number=1, lot=(1,))
        self.check_call(True, hangs, machine=resetting(4), code=CODE, number=1, lot=())
        self.check_call(True, hangs, machine=FOUR, code=(LOW, HIGH, EVEN), number=2, lot=(0, 1, 2))
        self.check_call(True, hangs, machine=FOUR, code=(LOW, HIGH, EVEN), number=2, lot=(2,))

    def test_all_lots_of_all_codes(self):
        found = {True: 0, False: 0}
        for machine in machines():
            all_codes = codes(machine)
            for code in all_codes[::1 + len(all_codes) // 30]:
                for number, lot in product(range(len(code)), every_lot(len(code))):
                    told = plain_hangs(machine, [code[at] for at in lot], code[number])
                    self.check_same(hangs(machine, code, number, lot), told)
                    found[told] += 1
        self.assertGreater(min(found.values()), 1000)

    def test_what_is_no_number_of_a_bit(self):
        for wrong in ODD + [2, 3, (), (0,), (0, 1), [0]]:
            self.check_refused(BadNumber, "value", wrong, hangs, FOUR, CODE, wrong, (0, 1))
            self.check_refused(BadNumber, "value", wrong, hangs, lot=None, number=wrong, code=CODE, machine=FOUR)
        for wrong in (0, 1, -1, True, None):
            self.check_refused(BadNumber, "value", wrong, hangs, ONE, (), wrong, ())

    def test_what_is_no_lot(self):
        wrongs = ODD + [0, 1, (1, 0), (0, 0), (1, 1), (0, 1, 1), (0, 1, 2), (2,), (0, 2), (-1, 0), (0, True), (False,)]
        wrongs += [[], [0], [0, 1], {0: 1}, "01", ((0,), (1,)), (0, (1,)), (0, "1"), (0, None), (0,) * 20000]
        for wrong in wrongs:
            self.check_refused(BadNumber, "value", wrong, hangs, FOUR, CODE, 0, wrong)
            self.check_refused(BadNumber, "value", wrong, hangs, lot=wrong, number=1, code=CODE, machine=FOUR)
        three = (LOW, HIGH, EVEN)
        for lot in product(range(3), repeat=3):
            if lot != (0, 1, 2):
                self.check_refused(BadNumber, "value", lot, hangs, FOUR, three, 0, lot)
        for lot in product(range(-1, 4), repeat=2):
            if lot not in every_lot(3):
                self.check_refused(BadNumber, "value", lot, hangs, FOUR, three, 0, lot)
        for lot in every_lot(3):
            self.check_call(plain_hangs(FOUR, [three[at] for at in lot], LOW), hangs, machine=FOUR, code=three,
                            number=0, lot=lot)


class BestCode(Checks, unittest.TestCase):
    def test_by_hand(self):
        self.check_call(CODE, best_code, machine=FOUR)
        self.check_call((), best_code, machine=ONE)
        self.check_call((), best_code, machine=leading((0, 0, 0, 0)))
        self.check_call(((0, 1),), best_code, machine=turning(2))
        self.check_call(((0, 1),), best_code, machine=staying(2, 4))
        self.check_call(((0, 0, 1), (0, 1, 0)), best_code, machine=resetting(3, 3))
        self.check_call((LOW, EVEN), best_code, machine=staying(4))
        self.check_call((LOW, EVEN), best_code, machine=resetting(4))

    def test_by_a_trial_of_all_codes(self):
        for machine in machines():
            self.check_same(best_code(machine), plain_best(machine, codes(machine)))

    def test_by_a_trial_of_all_codes_of_five_standings(self):
        for machine in [machine for machine in small_machines() if len(machine[0]) == 5]:
            self.check_same(best_code(machine), plain_best(machine, codes(machine)))

    def test_by_a_trial_of_greater_ones(self):
        """Bits in ascending order go before the same ones in another order, and cost as much."""
        some = [SIX, beside(turning(2), resetting(3)), strewn(6, 2, 3), turning(7), strewn(7, 2, 1), turning(8)]
        some += [beside(turning(2), turning(4)), leading(*[((at * 2) % 8, at // 2) for at in range(8)])]
        for machine in some:
            found = [code for code in combinations(halves(machine), 3) if len(set(zip(*code))) == len(machine[0])]
            self.check_same(best_code(machine), plain_best(machine, found))

    def test_as_few_bits_as_can_be(self):
        for machine in [*small_machines(), *great_machines()]:
            many = len(machine[0])
            code = best_code(machine)
            self.assertIs(is_code(machine, code), True)
            self.assertEqual(len(code), [0, 1, 2, 2, 3, 3, 3, 3][many - 1])
            self.assertEqual(list(code), sorted(code))
            self.check_same(best_code(machine), code)


class WrongArguments(Checks, unittest.TestCase):
    def test_what_is_no_machine(self):
        for thing, place in bad_machines():
            told = (BadMachine, "place", place)
            self.check_refused(*told, is_code, thing, CODE)
            self.check_refused(*told, lots, thing, CODE)
            self.check_refused(*told, cost, thing, CODE)
            self.check_refused(*told, hangs, thing, CODE, 0, (1,))
            self.check_refused(*told, best_code, thing)

    def test_what_is_no_code(self):
        wrongs = ODD + [0, (), (LOW,), (LOW, LOW), [LOW, HIGH], (LOW, HIGH, EVEN, EVEN), (LOW, HIGH, (0, 0, 0, 0)), LOW]
        wrongs += list(misshapen(CODE)) + [value for value in otherwise(CODE) if value not in codes(FOUR)]
        for wrong in wrongs:
            told = (BadCode, "value", wrong)
            for call in (lots, cost):
                self.check_refused(*told, call, FOUR, wrong)
                self.check_refused(*told, call, code=wrong, machine=FOUR)
            self.check_refused(*told, hangs, FOUR, wrong, 0, ())
        for wrong in ((), ((0, 1),) * 4, ((0, 0),)):
            self.check_refused(BadCode, "value", wrong, lots, turning(2), wrong)

    def test_of_several_wrong_arguments_the_first_one_is_told(self):
        machine = ("machine", FOUR, [([], BadMachine, "place", ()), ((FOUR[0], None), BadMachine, "place", (1,))])
        code = ("code", CODE, [(wrong, BadCode, "value", wrong) for wrong in (None, (), (LOW, LOW))])
        number = ("number", 1, [(wrong, BadNumber, "value", wrong) for wrong in (2, True, [], (1, 0))])
        lot = ("lot", (0, 1), [(wrong, BadNumber, "value", wrong) for wrong in ((2,), None, (1, 0), 5)])
        self.check_first_error(hangs, [machine, code, number, lot])
        for call in (lots, cost):
            self.check_first_error(call, [machine, code])
        self.check_first_error(is_code, [machine, ("value", CODE, [])])

    def test_what_is_refused_is_as_it_was(self):
        wrong = [LOW, [1], {2: [3]}]
        self.assertRaises(BadCode, lots, FOUR, wrong)
        self.assertRaises(BadCode, cost, FOUR, wrong)
        self.assertRaises(BadNumber, hangs, FOUR, CODE, wrong, wrong)
        self.assertRaises(BadNumber, hangs, FOUR, CODE, 0, wrong)
        self.assertEqual(wrong, [LOW, [1], {2: [3]}])


class Facts(Checks, unittest.TestCase):
    def test_a_bit_that_hangs_on_itself_alone_is_kept(self):
        for machine in machines():
            pairs = {parting: together(parting) for parting in halves(machine)}
            for code in codes(machine)[:30]:
                for number, bit in enumerate(code):
                    kept = all(
                        (goal, led) in pairs[bit] for one, far in pairs[bit]
                        for goal, led in zip(machine[0][one], machine[0][far])
                    )
                    self.assertIs(hangs(machine, code, number, (number,)), kept)

    def test_each_bit_hangs_on_all_bits(self):
        for machine in [*machines(), *great_machines()]:
            code = best_code(machine)
            for number in range(len(code)):
                self.assertIs(hangs(machine, code, number, tuple(range(len(code)))), True)
            self.assertTrue(apart(machine, code) and len(set(zip(*code))) in (0, len(single(machine))))
