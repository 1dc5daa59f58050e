import inspect
import unittest
from itertools import product

from keptpartings.bench import Bench
from keptpartings.codes import best_code
from keptpartings.desk import Desk
from keptpartings.errors import BadMachine, BadText
from keptpartings.kept import drawn, led_table
from keptpartings.ladders import width
from keptpartings.partings import all_partings
from keptpartings.shown import alike, parting_word
from keptpartings.sides import is_split
from keptpartings.texts import machine_text
from tests.samples import (
    FOUR, ODD, ONE, SIX, Checks, Thing, beside, great_machines, leading, plain_kept, showing, small_machines, staying,
    strewn, turning,
)

SIX_TEXT = "0 1\n0 2\n0 3\n0 4\n0 5\n1 0"
FOUR_TEXT = "0 1\n0 2\n0 3\n1 0"
# Lines that are none of those that are answered, whatever the machine.
NO_LINES = [
    "", " ", "\n", "0", "no", "done", "Take", "TAKE", "tak", "takes", "take ", " take", "take\n", "\ntake", "take 0",
    "take  ", "undo 1", "undo ", " undo", "un do", "machine ", " machine", "machine 0", "machine\n", "machines",
    "standings 1", "standing", "standings ", "many 1", "many ", "split 0", "split ", "width 1", "width ", "code 1",
    "code ", "alike 0", "alike ", "lead", "lead 0", "lead 0 0", "lead 0 0 0 0", "lead  0 0 0", "lead 0  0 0",
    "lead 0 0  0", "lead 0 0 0 ", " lead 0 0 0", "lead 0 0 0\n", "lead 00 0 0", "lead 0 00 0", "lead 0 0 00",
    "lead 0 0 -1", "lead a 0 0", "lead 0 a 0", "lead 0 0 a", "lead 0 0 +0", "lead,0,0,0", "lead 0\n0 0", "show", "show 0",
    "show 0 0 0", "show 0 00", "show 0 10", "show  0 0", "show 0 0 ", "show 0 x", "put", "put ", "put  1", "put 1 ",
    "put 1 1", "put 10", "put 01", "put x", "put -1", "put\n1", "kept", "kept ", "kept x", "drawn", "drawn 0", "drawn 0 0 0",
    "drawn 00 0", "drawn 0  0", "drawn 0 0 ", "front", "front ", "front x", "word", "word 0", "word 0 0 0", "word 0  0",
    "word 0 0 ", "word 0 x", "word 00 0", "best", "trial", "copy", "len", "put 1\nput 1", "take\ntake", "a" * 20000,
    "0 " * 9000, "kept " + "0 " * 5000 + "0", "front" + " 0" * 9000, "lead" + " 0" * 9000, "drawn 0 \u0660",
]


def desks():
    """A desk for each of many machines, with the machine."""
    machines = [*small_machines(), *great_machines(), strewn(7, 2, 3)]
    machines += [showing(machine, *[at % 3 for at in range(len(machine[0]))]) for machine in machines]
    return [(Desk(machine_text(machine)), machine) for machine in machines]


def spaced(numbers):
    return " ".join(map(str, numbers))


class Says(Checks):
    def check_says(self, desk, line, told):
        """The answer, which is a string; a question changes nothing and is answered the same again."""
        before = desk.bench.copy()
        for answer in (desk.say(line), desk.say(line=line)):
            self.check_same(answer, told)
        self.assertTrue(desk.bench == before)

    def check_done(self, desk, line):
        """The deed is done, once by position and once by name."""
        many = len(desk.bench)
        self.check_same(desk.say(line=line), "done")
        self.assertEqual(len(desk.bench), many + 1)
        desk.bench.undo()
        self.check_same(desk.say(line), "done")

    def check_no(self, desk, line):
        self.check_says(desk, line, "no")


class Making(Says, unittest.TestCase):
    def test_by_the_text_of_a_machine(self):
        for desk, machine in desks():
            self.assertIsInstance(desk.bench, Bench)
            self.check_same(desk.bench.machine, machine)
            self.assertEqual(len(desk.bench), 0)
        self.check_same(Desk(text=FOUR_TEXT).bench.machine, FOUR)

    def test_other_texts_are_refused(self):
        places = {
            "": (0, 0), "0": (0, 1), "0 0\n": (1, 0), "0 0 ": (0, 2), "0  0": (0, 1), "0 10": (0, 1), "0 0\n0": (1, 1),
            "0 0\nx y": (1, 0),
        }
        for thing in [thing for thing in ODD if not isinstance(thing, str)] + [0, (), FOUR, b"0 0"]:
            places[repr(thing)] = (None, None)
            with self.assertRaises(BadText) as caught:
                Desk(thing)
            self.check_same((caught.exception.line, caught.exception.word), (None, None))
        for text, place in places.items():
            if place != (None, None):
                with self.assertRaises(BadText) as caught:
                    Desk(text)
                self.check_same((caught.exception.line, caught.exception.word), place)
        self.check_refused(BadMachine, "place", (0, 0, 0), Desk, "0 1")
        self.check_refused(BadMachine, "place", (0,), Desk, "\n".join(["0 0"] * 9))
        self.check_refused(BadMachine, "place", (0, 1), Desk, text="0 0\n0 0 0")

    def test_the_names_of_the_interface_stand_in_the_class_itself(self):
        self.assertEqual(list(inspect.signature(Desk).parameters), ["text"])
        self.assertEqual(list(inspect.signature(vars(Desk)["say"]).parameters)[1:], ["line"])
        self.assertIsInstance(vars(Desk)["bench"], property)

    def test_the_very_bench(self):
        desk = Desk(FOUR_TEXT)
        bench = desk.bench
        self.assertIs(desk.bench, bench)
        desk.say("put 5")
        self.assertIs(desk.bench, bench)
        self.check_same(bench.machine, (((1,), (2,), (3,), (0,), (4,)), (0, 0, 0, 1, 5)))
        bench.lead(0, 0, 4)
        self.check_says(desk, "machine", "0 4 / 0 2 / 0 3 / 1 0 / 5 4")
        self.check_no(desk, "take")
        self.check_same(desk.say("undo"), "done")
        self.check_same(desk.say("undo"), "done")
        self.assertEqual(len(bench), 0)
        with bench.trial():
            desk.say("put 1")
            self.check_says(desk, "standings", "5")
        self.check_says(desk, "standings", "4")

    def test_desks_are_by_themselves(self):
        one, other = Desk(FOUR_TEXT), Desk(FOUR_TEXT)
        one.say("put 1")
        self.check_says(other, "standings", "4")


class Deeds(Says, unittest.TestCase):
    def test_by_hand(self):
        desk = Desk(FOUR_TEXT)
        self.check_done(desk, "lead 3 0 3")
        self.check_says(desk, "machine", "0 1 / 0 2 / 0 3 / 1 3")
        self.check_done(desk, "show 3 9")
        self.check_says(desk, "machine", "0 1 / 0 2 / 0 3 / 9 3")
        self.check_done(desk, "put 7")
        self.check_says(desk, "machine", "0 1 / 0 2 / 0 3 / 9 3 / 7 4")
        self.check_done(desk, "take")
        self.check_says(desk, "machine", "0 1 / 0 2 / 0 3 / 9 3")
        self.check_same(desk.say("undo"), "done")
        self.check_says(desk, "machine", "0 1 / 0 2 / 0 3 / 9 3 / 7 4")
        for many in (3, 2, 1):
            self.assertEqual(len(desk.bench), many)
            self.check_same(desk.say("undo"), "done")
        self.check_says(desk, "machine", "0 1 / 0 2 / 0 3 / 1 0")
        self.check_no(desk, "undo")

    def test_as_it_was(self):
        desk = Desk(FOUR_TEXT)
        self.check_done(desk, "lead 0 0 1")
        self.check_done(desk, "show 3 1")
        self.check_same(desk.bench.machine, FOUR)
        self.assertEqual(len(desk.bench), 2)

    def test_the_numbers_stand_in_their_order(self):
        desk = Desk("0 0 0 0\n1 0 0 0\n2 0 0 0")
        self.check_done(desk, "lead 0 1 2")
        self.check_says(desk, "machine", "0 0 2 0 / 1 0 0 0 / 2 0 0 0")
        self.check_done(desk, "lead 2 0 1")
        self.check_says(desk, "machine", "0 0 2 0 / 1 0 0 0 / 2 1 0 0")
        self.check_done(desk, "show 1 8")
        self.check_says(desk, "machine", "0 0 2 0 / 8 0 0 0 / 2 1 0 0")

    def test_deeds_that_cannot_be(self):
        desk = Desk(FOUR_TEXT)
        for line in ["lead 4 0 0", "lead 0 1 0", "lead 0 0 4", "lead 9 9 9", "show 4 0", "show 9 9", "take", "undo"]:
            self.check_no(desk, line)
        great = Desk(machine_text(staying(8)))
        self.check_no(great, "put 1")
        self.check_done(great, "take")
        self.check_done(great, "put 1")
        one = Desk("0 0")
        for line in ["take", "undo", "lead 0 0 1", "show 1 0"]:
            self.check_no(one, line)

    def test_a_deed_too_many(self):
        desk = Desk(machine_text(staying(3)))
        for at in range(400):
            self.check_same(desk.say(f"show 0 {at % 10}"), "done")
        for line in ["lead 0 0 0", "show 0 0", "put 0", "take"]:
            self.check_no(desk, line)
        self.check_same(desk.say("undo"), "done")
        self.check_done(desk, "take")
        self.check_no(desk, "take")

    def test_all_deeds_of_three_numbers(self):
        for standing, letter, goal in product(range(4), range(3), range(4)):
            desk, bench = Desk("0 1 0\n1 0 0\n2 2 2"), Bench(leading((1, 0), (0, 0), (2, 2)))
            told = desk.say(f"lead {standing} {letter} {goal}")
            if standing < 3 and letter < 2 and goal < 3:
                bench.lead(standing, letter, goal)
                self.assertEqual(told, "done")
                self.check_same(desk.bench.machine[0], bench.machine[0])
            else:
                self.assertEqual(told, "no")
                self.assertEqual(len(desk.bench), 0)


class Questions(Says, unittest.TestCase):
    def test_by_hand(self):
        six = Desk(SIX_TEXT)
        answers = {
            "machine": "0 1 / 0 2 / 0 3 / 0 4 / 0 5 / 1 0", "standings": "6", "kept 0 1 0 1 0 1": "yes",
            "kept 0 0 1 1 2 2": "not", "drawn 0 2": "0 1 0 1 0 1", "drawn 3 0": "0 1 2 0 1 2", "drawn 1 1": "0 1 2 3 4 5",
            "drawn 0 1": "0 0 0 0 0 0", "many": "4", "front 0 1 2 0 1 2": "1 / 2 / 0", "front 0 0 0 0 0 0": "0",
            "front 0 1 2 3 4 5": "1 / 2 / 3 / 4 / 5 / 0", "front 0 0 1 1 2 2": "no", "split": "split", "width": "3",
            "code": "0 0 0 1 1 1 / 0 0 1 1 1 0 / 0 1 1 1 0 0", "alike": "0 1 2 3 4 5", "word 0 1": "0 0 0 0",
            "word 5 0": "empty", "word 4 4": "none", "word 0 5": "empty",
        }
        for line, told in answers.items():
            self.check_says(six, line, told)
        four = Desk(FOUR_TEXT)
        answers = {"split": "bound", "width": "2", "code": "0 0 1 1 / 0 1 1 0", "word 0 1": "0 0", "many": "3"}
        for line, told in answers.items():
            self.check_says(four, line, told)

    def test_of_one_standing(self):
        answers = {
            "machine": "7 0 0", "standings": "1", "kept 0": "yes", "kept 1": "no", "kept 0 0": "no", "drawn 0 0": "0",
            "drawn 0 1": "no", "many": "1", "front 0": "0 0", "split": "alone", "width": "1", "code": "none",
            "alike": "0", "word 0 0": "none", "word 0 1": "no",
        }
        for line, told in answers.items():
            self.check_says(Desk("7 0 0"), line, told)

    def test_of_many_letters(self):
        desk = Desk("0 1 0 1\n0 0 1 1")
        self.check_says(desk, "front 0 1", "1 0 1 / 0 1 1")
        self.check_says(desk, "word 0 1", "none")
        self.check_says(desk, "machine", "0 1 0 1 / 0 0 1 1")
        self.check_same(desk.say("show 1 5"), "done")
        self.check_says(desk, "word 1 0", "empty")
        desk = Desk("0 0 1 0\n0 1 2 0\n0 2 3 2\n1 3 3 3")
        self.check_says(desk, "word 0 1", "1 1")
        self.check_says(desk, "alike", "0 1 2 3")
        self.check_says(desk, "front 0 0 0 1", "no")

    def test_by_the_functions(self):
        for desk, machine in desks():
            many = len(machine[0])
            self.check_says(desk, "machine", machine_text(machine).replace("\n", " / "))
            self.check_says(desk, "standings", str(many))
            self.check_says(desk, "many", str(len(plain_kept(machine))))
            self.check_says(desk, "split", "alone" if many == 1 else "split" if is_split(machine) else "bound")
            self.check_says(desk, "alike", spaced(alike(machine)))
            if len(plain_kept(machine)) <= 300:
                self.check_says(desk, "width", str(width(machine)))
            else:
                self.check_no(desk, "width")
            for parting in all_partings(machine)[::1 + many ** 3 // 9]:
                self.check_says(desk, "kept " + spaced(parting), "yes" if parting in plain_kept(machine) else "not")
            for parting in plain_kept(machine)[:4]:
                told = " / ".join(spaced(goals) for goals in led_table(machine, parting))
                self.check_says(desk, "front " + spaced(parting), told)
            for one, far in [(0, many - 1), (many - 1, 0), (many // 2, many // 3)]:
                self.check_says(desk, f"drawn {one} {far}", spaced(drawn(machine, one, far)))
                word = parting_word(machine, one, far)
                self.check_says(desk, f"word {one} {far}", "none" if word is None else spaced(word) or "empty")

    def test_codes(self):
        for desk, machine in desks()[::4]:
            told = " / ".join(spaced(bit) for bit in best_code(machine)) or "none"
            self.check_says(desk, "code", told)

    def test_what_cannot_be_told(self):
        desk = Desk(FOUR_TEXT)
        for line in [
            "kept 0", "kept 0 1 0", "kept 0 1 0 1 0", "kept 1 0 1 0", "kept 0 1 0 3", "kept 0 1 0 a", "kept 0 1  0 1",
            "kept 0 1 0 1 ", " kept 0 1 0 1", "kept  0 1 0 1", "kept 0 1 0 01", "kept 0 1 0 1\n", "kept 0 1 0 1\n0",
            "front 0 0 1 1", "front 0", "front 1 0 1 0", "front 0 1 0 1 ", "front 0 1 0 1\n", "drawn 0 4", "drawn 4 0",
            "word 0 4", "word 4 0", "word 9 9",
        ]:
            self.check_no(desk, line)

    def test_they_see_the_machine_as_it_is_now(self):
        desk = Desk(FOUR_TEXT)
        self.check_says(desk, "kept 0 1 0 1", "yes")
        desk.say("lead 3 0 3")
        self.check_says(desk, "kept 0 1 0 1", "not")
        self.check_says(desk, "front 0 1 2 2", "1 / 2 / 2")
        self.check_says(desk, "drawn 2 3", "0 1 2 2")
        desk.say("put 0")
        self.check_no(desk, "kept 0 1 0 1")
        self.check_says(desk, "kept 0 1 2 3 4", "yes")
        self.check_says(desk, "split", "split")
        self.check_says(desk, "alike", "0 1 2 3 4")
        desk.say("show 3 0")
        self.check_says(desk, "alike", "0 0 0 0 0")
        self.check_says(desk, "word 0 3", "none")


class NoLines(Says, unittest.TestCase):
    def test_lines_that_are_none_of_these(self):
        for machine in (ONE, FOUR, staying(3, 2), turning(8)):
            desk = Desk(machine_text(machine))
            if machine != ONE:
                desk.say("show 1 5")
            for line in NO_LINES:
                self.check_no(desk, line)

    def test_what_is_no_string(self):
        desk = Desk(FOUR_TEXT)
        desk.say("show 1 5")
        for thing in ODD + [0, 1, (), b"take", b"machine", ["machine"], ("machine",), {"machine": 0}, Thing(), FOUR]:
            self.check_no(desk, thing)

    def test_a_word_too_many_or_lacking_behind_each_question(self):
        for desk in (Desk(SIX_TEXT), Desk(machine_text(beside(turning(2), turning(2))))):
            whole = spaced([0] * len(desk.bench.machine[0]))
            lines = ["machine", "standings", "many", "split", "width", "code", "alike", "kept " + whole, "front " + whole]
            lines += ["drawn 0 1", "word 0 1"]
            for line in lines:
                self.assertNotEqual(desk.say(line), "no")
                for wrong in [line + " 0", line + " ", " " + line, line + "\n", line.upper(), line + " 0 0", "\n" + line]:
                    self.check_no(desk, wrong)
                if " " in line:
                    self.check_no(desk, line.rpartition(" ")[0])
                    self.check_no(desk, line.replace(" ", "  ", 1))
                    self.check_no(desk, line.replace(" ", "\n", 1))

    def test_lines_of_each_word_with_each_count_of_numbers(self):
        counts = {"lead": 3, "show": 2, "put": 1, "take": 0, "undo": 0, "machine": 0, "standings": 0, "kept": 3,
                  "drawn": 2, "many": 0, "front": 3, "split": 0, "width": 0, "code": 0, "alike": 0, "word": 2}
        for word, count in counts.items():
            for many in range(6):
                desk = Desk(machine_text(staying(3)))
                desk.say("put 0")
                desk.say("take")
                line = word + " 0" * many
                self.assertEqual(desk.say(line) != "no", many == count, line)
