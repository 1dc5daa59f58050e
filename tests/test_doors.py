"""Every function of the interface: what it is called with, and what it refuses, whatever stands behind that."""

import importlib
import inspect
import unittest
from copy import deepcopy

from keptpartings.bench import Bench, under
from keptpartings.codes import best_code, cost, hangs, is_code, lots
from keptpartings.desk import Desk
from keptpartings.errors import (
    Alone, BadCode, BadMachine, BadNumber, BadPaper, BadParting, BadRow, BadStanding, BadText, BadWord, TooGreat,
)
from keptpartings.kept import chain, drawn, is_chain, is_kept, kept_partings, least_kept, led_table
from keptpartings.knowing import before, is_pair, letters_alike, next_of
from keptpartings.ladders import check_width, longest_ladder, needs, width, width_paper
from keptpartings.machines import need_machine, run
from keptpartings.partings import all_partings, blocks, is_finer, is_parting, join, meet, single, whole
from keptpartings.rows import front_parting, is_row, least_rear, row_of
from keptpartings.shown import alike, least_machine, parting_word, tells
from keptpartings.sides import are_sides, check_split, is_split, side_partings, sides_of, split_paper
from keptpartings.texts import machine_text, parting_text, read_machine, read_parting, row_text
from tests.samples import FOUR, ODD, ONE, SIX, Checks, Thing, bad_machines, staying
from tests.test_form import INTERFACE

DEEP = ()
for _ in range(49):
    DEEP = (DEEP,)
# A value of each kind; none of them serves anywhere but where any value does.
KINDS = ODD + [DEEP, (0,) * 20000, [[]] * 20000, "0 1 0 1", (0.5,), 1j, complex, Thing(), [0, 1, 0, 1], bytearray(b"0101")]

PARTING, HALF, SINGLE = (0, 1, 0, 1), (0, 0, 1, 1), (0, 1, 2, 3)
ROW = row_of(FOUR, PARTING)
SIDES = sides_of(SIX, ((0, 1, 0, 1, 0, 1), (0, 1, 2, 0, 1, 2)))
LADDER = longest_ladder(FOUR)
CODE = best_code(FOUR)


def refused(error, field, values):
    """Values that are told as they are."""
    return [(value, error, field, value) for value in values]


def told(error, field, value, values):
    """Values of which something else is told."""
    return [(thing, error, field, value) for thing in values]


NO_PARTINGS = KINDS + [0, (), (0, 0, 0), (0, 0, 0, 0, 0), (0, 0, 0, 2), (1, 0, 0, 0), (0, True, 0, 1), (0, 1, 0, -1)]
MACHINE = ("machine", FOUR, [(thing, BadMachine, "place", place) for thing, place in bad_machines()[::3]])
MACHINE[2].extend(told(BadMachine, "place", (), [thing for thing in KINDS if thing != (0, 0)]))
SIX_MACHINE = ("machine", SIX, MACHINE[2])
THING = ("thing", FOUR, MACHINE[2])
PARTING_DOOR = ("parting", PARTING, refused(BadParting, "value", NO_PARTINGS))
OTHER_DOOR = ("other", HALF, refused(BadParting, "value", NO_PARTINGS))
KEPT_DOOR = ("parting", PARTING, refused(BadParting, "value", NO_PARTINGS + [HALF, (0, 0, 0, 1)]))
NO_STANDINGS = KINDS + [4, 8, (), (0,)]
NO_TWOS = KINDS + [0, 1, (), (0,), (0, 4), (4, 0), (0, 1, 2), (True, 0), (0, False), ((0,), 1)]
TWO_WRONGS = refused(BadNumber, "value", [wrong for wrong in NO_TWOS if wrong != (0, 0)])
NO_WORDS = told(BadWord, "place", None, [wrong for wrong in KINDS if not isinstance(wrong, tuple)] + [(0,) * 401])
NO_WORDS += told(BadWord, "place", 2, [(0, 0, wrong) for wrong in KINDS + [1, (0,)]])
ROW_DOOR = ("row", ROW, refused(BadRow, "value", KINDS + [0, (), FOUR, ROW[:2], [*ROW], (ROW[0], ROW[1], ())]))
CODE_DOOR = ("code", CODE, refused(BadCode, "value", KINDS + [0, (), CODE[:1], [*CODE], (HALF, HALF), (*CODE, *CODE)]))
NO_PAPERS = told(BadPaper, "word", "form", KINDS + [0, (), (LADDER,), [LADDER, ()], (LADDER, (), ())])
SPLIT_WRONGS = told(BadPaper, "word", "form", KINDS + [0, (), ("split", 0), ("bound", 0, 0), ("odd", 0, 0), ["split", 0, 0]])
SPLIT_WRONGS += told(BadPaper, "word", "split", [("split", SINGLE, SINGLE), ("split", 0, 0), ("split", PARTING, None)])
SPLIT_WRONGS += told(BadPaper, "word", "bound", [("bound", 0, 2, ()), ("bound", 2, 0, []), ("bound", None, None, None)])
WIDTH_WRONGS = NO_PAPERS + told(BadPaper, "word", "ladder", [(wrong, ()) for wrong in KINDS + [LADDER[1:], [*LADDER]]])
WIDTH_WRONGS += told(BadPaper, "word", "stuck", [(LADDER, wrong) for wrong in KINDS + [[], LADDER[:1]]])
NO_LADDERS = refused(BadNumber, "value", KINDS + [0, (), LADDER[:2], LADDER[1:], [*LADDER], LADDER[::-1]])
NO_LOTS = refused(BadNumber, "value", KINDS + [0, 1, (2,), (0, 0), (1, 0), (0, True), [0], (0, 1, 2)])
NO_SETS = refused(BadNumber, "value", KINDS + [0, (), (PARTING,), [SINGLE], (SINGLE, HALF), (SINGLE,) * 5, SINGLE])
NO_SIDES = refused(BadRow, "value", KINDS + [0, (), SIX, SIDES[:1], [*SIDES], ROW, (SIDES[0], SIDES[0])])
ANY = ("value", None, [])

# Each function with the names of its arguments, a value of each that serves, and the wrong ones.
DOORS = [
    (need_machine, [THING]),
    (run, [MACHINE, ("standing", 0, refused(BadStanding, "value", NO_STANDINGS)), ("word", (0, 0), NO_WORDS)]),
    (is_parting, [MACHINE, ANY]), (single, [MACHINE]), (whole, [MACHINE]), (all_partings, [MACHINE]),
    (blocks, [MACHINE, PARTING_DOOR]), (is_finer, [MACHINE, PARTING_DOOR, OTHER_DOOR]),
    (meet, [MACHINE, PARTING_DOOR, OTHER_DOOR]), (join, [MACHINE, PARTING_DOOR, OTHER_DOOR]),
    (is_kept, [MACHINE, PARTING_DOOR]), (least_kept, [MACHINE, PARTING_DOOR]), (kept_partings, [MACHINE]),
    (drawn, [MACHINE, ("one", 0, refused(BadStanding, "value", NO_STANDINGS)),
             ("far", 1, refused(BadStanding, "value", NO_STANDINGS))]),
    (led_table, [MACHINE, KEPT_DOOR]),
    (chain, [MACHINE, ("pair", (0, 1), TWO_WRONGS), ("goal", (2, 3), TWO_WRONGS)]),
    (is_chain, [MACHINE, ("pair", (0, 1), TWO_WRONGS), ("goal", (2, 3), TWO_WRONGS), ANY]),
    (row_of, [MACHINE, KEPT_DOOR]), (is_row, [MACHINE, ANY]), (front_parting, [MACHINE, ROW_DOOR]),
    (least_rear, [MACHINE, KEPT_DOOR]),
    (sides_of, [MACHINE, ("partings", (SINGLE, PARTING), NO_SETS)]), (are_sides, [MACHINE, ANY]),
    (side_partings, [SIX_MACHINE, ("sides", SIDES, NO_SIDES)]),
    (is_split, [MACHINE]), (split_paper, [MACHINE]), (check_split, [MACHINE, ("paper", split_paper(FOUR), SPLIT_WRONGS)]),
    (needs, [MACHINE, ("ladder", LADDER, NO_LADDERS)]), (longest_ladder, [MACHINE]), (width, [MACHINE]),
    (width_paper, [MACHINE]), (check_width, [MACHINE, ("paper", (LADDER, ()), WIDTH_WRONGS)]),
    (is_pair, [MACHINE, PARTING_DOOR, OTHER_DOOR]), (next_of, [MACHINE, PARTING_DOOR]),
    (before, [MACHINE, PARTING_DOOR]), (letters_alike, [MACHINE, PARTING_DOOR]),
    (is_code, [MACHINE, ANY]), (lots, [MACHINE, CODE_DOOR]), (cost, [MACHINE, CODE_DOOR]), (best_code, [MACHINE]),
    (hangs, [MACHINE, CODE_DOOR, ("number", 0, refused(BadNumber, "value", KINDS + [2, (), (0,)])), ("lot", (0, 1), NO_LOTS)]),
    (tells, [MACHINE, PARTING_DOOR]), (alike, [MACHINE]), (least_machine, [MACHINE]),
    (parting_word, [MACHINE, ("one", 0, refused(BadStanding, "value", NO_STANDINGS)),
                    ("far", 1, refused(BadStanding, "value", NO_STANDINGS))]),
    (machine_text, [MACHINE]), (parting_text, [MACHINE, PARTING_DOOR]), (row_text, [MACHINE, ROW_DOOR]),
    (read_machine, [("text", "0 1\n0 0", [])]), (read_parting, [MACHINE, ("text", "0 1 0 1", [])]),
    (under, [("manager", Bench(FOUR).trial(), []), ("deed", len, [])]),
]


class Doors(Checks, unittest.TestCase):
    def test_every_function_of_the_interface_stands_here(self):
        found = {call.__name__ for call, _ in DOORS} | {"Bench", "Desk"}
        names = [name for module, names in INTERFACE.items() if module != "errors" for name in names]
        self.assertEqual(found, set(names))
        self.assertEqual(len(names), len(set(names)))

    def test_the_names_of_the_arguments(self):
        for call, doors in DOORS:
            told = inspect.signature(call).parameters.values()
            self.assertEqual([one.name for one in told], [name for name, _, _ in doors], call.__name__)
            for one in told:
                self.assertIs(one.kind, one.POSITIONAL_OR_KEYWORD)
                self.assertIs(one.default, one.empty)

    def test_what_serves(self):
        """Equal calls give equal results, by place and by name, and nothing is changed."""
        for call, doors in DOORS[:-1]:
            named = {name: valid for name, valid, _ in doors}
            self.check_call(call(**deepcopy(named)), call, **named)

    def test_a_wrong_value_of_each_kind_at_each_door(self):
        for call, doors in DOORS:
            for at, (_, _, wrongs) in enumerate(doors):
                for wrong, error, field, value in wrongs:
                    with self.subTest(call=call.__name__, door=at, wrong=repr(wrong)[:80]):
                        self.check_door(call, doors, at, wrong, error, field, value)

    def check_door(self, call, doors, at, wrong, error, field, value):
        """The exception is raised with what serves behind the door, and with what does not."""
        ahead = {name: valid for name, valid, _ in doors[:at]}
        behind = [{name: valid for name, valid, _ in doors[at + 1:]}]
        behind.append({name: wrongs[-1][0] if wrongs else wrong for name, _, wrongs in doors[at + 1:]})
        behind.append({name: None for name, _, _ in doors[at + 1:]})
        for rest in behind:
            named = {**ahead, doors[at][0]: wrong, **rest}
            self.check_refused(error, field, value, call, *named.values())
            self.check_refused(error, field, value, call, **dict(reversed(list(named.items()))))

    def test_any_value_is_judged(self):
        for call in (is_parting, is_row, are_sides, is_code):
            for value in KINDS + [0, ()]:
                self.assertIs(call(FOUR, value), False)
        for value in KINDS:
            self.assertIs(is_chain(FOUR, (0, 1), (2, 3), value), False)

    def test_what_is_refused_is_as_it_was(self):
        wrong = [[0, [1]], {"a": [(0, [1])]}, (0, [2])]
        for call, doors in DOORS[:-1]:
            for at, (name, _, wrongs) in enumerate(doors):
                if wrongs:
                    named = {**{one: valid for one, valid, _ in doors}, name: wrong}
                    self.assertRaises((BadMachine, *[error for _, error, _, _ in wrongs[:1]]), call, **named)
                    self.assertEqual(wrong, [[0, [1]], {"a": [(0, [1])]}, (0, [2])])


class Limits(Checks, unittest.TestCase):
    def test_of_one_standing(self):
        for call in (is_split, split_paper):
            self.assertRaises(Alone, call, ONE)
        for paper in KINDS:
            self.assertRaises(Alone, check_split, ONE, paper)

    def test_of_too_many_kept_partings(self):
        for call in (longest_ladder, width, width_paper):
            self.check_refused(TooGreat, "most", 300, call, staying(7))
        for paper in (None, (), (LADDER, ())):
            self.check_refused(TooGreat, "most", 300, check_width, staying(7), paper)

    def test_texts_of_each_kind(self):
        for thing in [kind for kind in KINDS if not isinstance(kind, str)]:
            for call, ahead in ((read_machine, ()), (read_parting, (FOUR,)), (Desk, ())):
                with self.assertRaises(BadText) as caught:
                    call(*ahead, thing)
                self.assertEqual((caught.exception.line, caught.exception.word), (None, None))


class Modules(unittest.TestCase):
    def test_everything_stands_in_its_own_module(self):
        for module, names in INTERFACE.items():
            found = importlib.import_module(f"keptpartings.{module}")
            for name in names:
                self.assertEqual(getattr(found, name).__module__, f"keptpartings.{module}", name)
