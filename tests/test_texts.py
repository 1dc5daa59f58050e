import unittest

from keptpartings.errors import BadMachine, BadParting, BadRow, BadText
from keptpartings.partings import all_partings
from keptpartings.rows import row_of
from keptpartings.texts import machine_text, parting_text, read_machine, read_parting, row_text
from tests.samples import (
    FOUR, ODD, ONE, SIX, Checks, bad_machines, beside, great_machines, leading, misshapen, otherwise, plain_kept,
    showing, small_machines, staying, strewn, turning,
)

SIX_TEXT = "0 1\n0 2\n0 3\n0 4\n0 5\n1 0"
TWO = showing(leading((1, 0, 1), (0, 1, 1)), 3, 9)
TWO_TEXT = "3 1 0 1\n9 0 1 1"
# What is no figure, whatever stands beside it; each is one word.
NO_FIGURES = ["", "00", "01", "10", "-1", "+1", "a", "O", "l", "1.", ".1", "1,", "_", "/", ":", "~", "!", "0x1", "1e1", "none"]


def machines():
    """Machines of all kinds that show all figures."""
    some = [*small_machines(), *great_machines(), TWO]
    return some + [showing(machine, *[(at * 7 + 3) % 10 for at in range(len(machine[0]))]) for machine in some]


def wrong_lines(line):
    """A line of figures with something wrong, and the number of the first word that is."""
    words = line.split(" ")
    for at in range(len(words)):
        for wrong in NO_FIGURES:
            yield " ".join([*words[:at], wrong, *words[at + 1:]]), at
            yield " ".join([*words[:at], wrong, *words[at:]]), at
            # What is wrong behind it does not matter.
            yield " ".join([*words[:at], wrong, *[wrong for _ in words[at + 1:]]]), at
    for wrong in NO_FIGURES:
        yield f"{line} {wrong}", len(words)
    yield line.replace(" ", "  "), 1 if len(words) > 1 else None
    yield f" {line}", 0


def check_bad_text(case, line, word, call, /, *arguments, **named):
    with case.assertRaises(BadText) as caught:
        call(*arguments, **named)
    case.assertIs(caught.exception.__class__, BadText)
    case.check_same((caught.exception.line, caught.exception.word), (line, word))


class MachineText(Checks, unittest.TestCase):
    def test_by_hand(self):
        self.check_call(SIX_TEXT, machine_text, machine=SIX)
        self.check_call(TWO_TEXT, machine_text, machine=TWO)
        self.check_call("0 0", machine_text, machine=ONE)
        self.check_call("9 0 0 0 0", machine_text, machine=(((0, 0, 0, 0),), (9,)))

    def test_what_is_no_machine(self):
        for thing, place in bad_machines():
            self.check_refused(BadMachine, "place", place, machine_text, thing)


class PartingText(Checks, unittest.TestCase):
    def test_by_hand(self):
        self.check_call("0 1 0 1", parting_text, machine=FOUR, parting=(0, 1, 0, 1))
        self.check_call("0 0 1 2", parting_text, machine=FOUR, parting=(0, 0, 1, 2))
        self.check_call("0", parting_text, machine=ONE, parting=(0,))
        self.check_call("0 1 2 3 4 5 6 7", parting_text, machine=turning(8), parting=(0, 1, 2, 3, 4, 5, 6, 7))

    def test_wrong_arguments(self):
        for thing, place in bad_machines():
            self.check_refused(BadMachine, "place", place, parting_text, thing, (0, 0, 0, 0))
        for wrong in ODD + [0, (), (0, 0, 0), (0, 0, 0, 2), (1, 0, 0, 0), [0, 1, 0, 1], (0, True, 0, 1), "0 1 0 1"]:
            self.check_refused(BadParting, "value", wrong, parting_text, FOUR, wrong)
        machine = ("machine", FOUR, [([], BadMachine, "place", ())])
        parting = ("parting", (0, 1, 0, 1), [(wrong, BadParting, "value", wrong) for wrong in (None, (0, 0))])
        self.check_first_error(parting_text, [machine, parting])


class RowText(Checks, unittest.TestCase):
    def test_by_hand(self):
        row = (((1,), (0,)), (((0, 1),), ((1, 0),)), ((0, 0), (1, 0), (0, 1), (1, 1)))
        text = "front 1\nfront 0\nrear 0 1\nrear 1 0\nat 0 0\nat 1 0\nat 0 1\nat 1 1"
        self.check_call(text, row_text, machine=FOUR, row=row)
        self.check_call("front 0\nrear 0\nat 0 0", row_text, machine=ONE, row=(((0,),), (((0,),),), ((0, 0),)))
        machine = leading((1, 0), (0, 1))
        row = (((1, 0), (0, 1)), (((0, 0), (0, 0)),), ((0, 0), (1, 0)))
        self.check_call("front 1 0\nfront 0 1\nrear 0 0 / 0 0\nat 0 0\nat 1 0", row_text, machine=machine, row=row)
        row = (((0, 0),), (((1,), (0,)), ((0,), (1,))), ((0, 0), (0, 1)))
        self.check_call("front 0 0\nrear 1 / 0\nrear 0 / 1\nat 0 0\nat 0 1", row_text, machine=machine, row=row)

    def test_of_three_letters(self):
        machine = leading((0, 1, 1), (1, 0, 1))
        row = (((0, 1, 1), (1, 0, 1)), (((0, 0), (0, 0), (0, 0)),), ((0, 0), (1, 0)))
        text = "front 0 1 1\nfront 1 0 1\nrear 0 0 / 0 0 / 0 0\nat 0 0\nat 1 0"
        self.check_call(text, row_text, machine=machine, row=row)

    def test_told_rows_can_be_read_off(self):
        for machine in [*small_machines()[::3], *great_machines()]:
            for parting in plain_kept(machine)[:8]:
                row = row_of(machine, parting)
                front, rear, places = [], [], []
                for line in row_text(machine, row).split("\n"):
                    word, rest = line.split(" ", 1)
                    if word == "rear":
                        rear.append(tuple(tuple(map(int, goals.split(" "))) for goals in rest.split(" / ")))
                    else:
                        {"front": front, "at": places}[word].append(tuple(map(int, rest.split(" "))))
                self.assertEqual((tuple(front), tuple(rear), tuple(places)), row)
                words = [line.split(" ")[0] for line in row_text(machine, row).split("\n")]
                self.assertEqual(words, ["front"] * len(front) + ["rear"] * len(rear) + ["at"] * len(places))

    def test_what_is_no_row(self):
        row = row_of(FOUR, (0, 1, 0, 1))
        wrongs = ODD + [0, (), row[:2], row + ((),), [*row], FOUR, (row[0], row[1], row[2][:3]), *misshapen(row)]
        wrongs.append((row[0], row[1], ((0, 0), (1, 0), (0, 1), (1, 0))))
        wrongs.append((((0,), (1,)), row[1], row[2]))
        for wrong in wrongs:
            self.check_refused(BadRow, "value", wrong, row_text, FOUR, wrong)
        for wrong in list(otherwise(row))[::3]:
            try:
                told = row_text(FOUR, wrong)
            except BadRow as error:
                self.assertEqual(error.value, wrong)
            else:
                self.assertTrue(told.startswith("front "))
        for thing, place in bad_machines():
            self.check_refused(BadMachine, "place", place, row_text, thing, row)
        machine = ("machine", FOUR, [([], BadMachine, "place", ())])
        self.check_first_error(row_text, [machine, ("row", row, [(wrong, BadRow, "value", wrong) for wrong in (None, ())])])


class ReadMachine(Checks, unittest.TestCase):
    def check_text(self, line, word, text):
        check_bad_text(self, line, word, read_machine, text)
        check_bad_text(self, line, word, read_machine, text=text)

    def test_it_reads_what_was_told(self):
        for machine in machines():
            self.check_same(read_machine(machine_text(machine)), machine)

    def test_by_hand(self):
        self.check_call(SIX, read_machine, text=SIX_TEXT)
        self.check_call(TWO, read_machine, text=TWO_TEXT)
        self.check_call(ONE, read_machine, text="0 0")

    def test_what_is_no_string(self):
        for thing in ODD + [0, (), SIX, b"0 0", ["0 0"], ("0 0",)]:
            if not isinstance(thing, str):
                self.check_text(None, None, thing)

    def test_something_wrong_at_each_place(self):
        lines = SIX_TEXT.split("\n")
        for at, line in enumerate(lines):
            for wrong, word in wrong_lines(line):
                self.check_text(at, word, "\n".join([*lines[:at], wrong, *lines[at + 1:]]))
                self.check_text(at, word, "\n".join([*lines[:at], wrong, *["x y"] * 3]))

    def test_empty_lines_and_ends(self):
        self.check_text(0, 0, "")
        self.check_text(0, 0, "\n")
        self.check_text(0, 0, " ")
        self.check_text(0, 0, "\n" + SIX_TEXT)
        self.check_text(6, 0, SIX_TEXT + "\n")
        self.check_text(5, 2, SIX_TEXT + " ")
        self.check_text(6, 0, SIX_TEXT + "\n ")
        self.check_text(0, 2, SIX_TEXT.replace("\n", " \n"))
        self.check_text(1, 0, SIX_TEXT.replace("\n", "\n\n", 1))
        self.check_text(1, 0, SIX_TEXT.replace("\n", "\n "))
        self.check_text(0, 1, SIX_TEXT.replace("\n", "\r\n"))
        self.check_text(0, 0, SIX_TEXT.replace(" ", "\t"))

    def test_a_line_that_lacks_a_word(self):
        self.check_text(0, 1, "0")
        self.check_text(0, 1, "0\n0 1")
        self.check_text(1, 1, "0 1\n7\n0 1")
        self.check_text(0, 1, "0\nx")
        self.check_text(1, 0, "0 0\nx\n0")
        self.check_text(2, 1, "9 9\n8 8\n7")

    def test_signs_that_are_no_figures(self):
        for sign in [chr(number) for number in range(32, 127)] + ["\u0661", "\u00b2", "\uff11", "\u2460"]:
            if sign not in "0123456789 ":
                self.check_text(0, 0, f"{sign} 0")
                self.check_text(0, 1, f"0 {sign}")
        for sign in "0123456789":
            self.check_same(read_machine(f"{sign} 0"), (((0,),), (int(sign),)))

    def test_what_has_the_form_and_is_no_machine(self):
        texts = {
            "0 0\n0 0 0": (0, 1), "0 0 0\n0 0": (0, 1), "0 0 0 0 0 0": (0, 0), "0 0 0 0 0\n0 0 0 0 0 0": (0, 1),
            "0 1": (0, 0, 0), "0 0\n0 2": (0, 1, 0), "0 0 0\n0 1 9": (0, 1, 1), "\n".join(["0 0"] * 9): (0,),
            "\n".join(["0 8"] * 9): (0,), "0 8\n0 0 0": (0, 1), "\n".join(["9 8"] * 8): (0, 0, 0),
            "\n".join(["0 0"] * 5000): (0,), " ".join(["0"] * 9999): (0, 0),
        }
        for text, place in texts.items():
            self.check_refused(BadMachine, "place", place, read_machine, text)
            self.check_refused(BadMachine, "place", place, read_machine, text=text)
        # What is wrong by its form is told first, wherever it stands.
        self.check_text(8, 1, "\n".join(["0 9"] * 8) + "\n0")


class ReadParting(Checks, unittest.TestCase):
    def check_text(self, line, word, machine, text):
        check_bad_text(self, line, word, read_parting, machine, text)
        check_bad_text(self, line, word, read_parting, text=text, machine=machine)

    def test_it_reads_what_was_told(self):
        for machine in [ONE, turning(2), FOUR, SIX, strewn(5, 2, 1), staying(8), beside(turning(2), staying(2))]:
            for parting in all_partings(machine)[::7 if len(machine[0]) > 6 else 1]:
                self.check_same(read_parting(machine, parting_text(machine, parting)), parting)

    def test_by_hand(self):
        self.check_call((0, 1, 0, 1), read_parting, machine=FOUR, text="0 1 0 1")
        self.check_call((0,), read_parting, machine=ONE, text="0")

    def test_what_is_no_string(self):
        for thing in ODD + [0, (), (0, 1, 0, 1), b"0 1 0 1", ["0 1 0 1"]]:
            if not isinstance(thing, str):
                self.check_text(None, None, FOUR, thing)

    def test_something_wrong_at_each_place(self):
        for machine, line in ((FOUR, "0 1 0 1"), (ONE, "0"), (SIX, "0 0 1 0 1 2")):
            for wrong, word in wrong_lines(line):
                if word is not None:
                    self.check_text(0, word, machine, wrong)
                    self.check_text(0, word, machine, wrong + "\n" + line)

    def test_empty_lines_and_ends(self):
        self.check_text(0, 0, FOUR, "")
        self.check_text(0, 0, FOUR, " ")
        self.check_text(0, 0, FOUR, "\n")
        self.check_text(0, 4, FOUR, "0 1 0 1 ")
        self.check_text(0, 0, FOUR, " 0 1 0 1")
        self.check_text(0, 0, FOUR, "\n0 1 0 1")

    def test_further_lines(self):
        for further in ["", "0 1 0 1", "0", "x", " ", "0 1 0 1\n0 1 0 1", "\n"]:
            self.check_text(1, 0, FOUR, "0 1 0 1\n" + further)
            self.check_text(1, 0, FOUR, "0 7\n" + further)

    def test_what_has_the_form_and_is_no_parting(self):
        texts = {
            "0": (0,), "0 1 0": (0, 1, 0), "0 1 0 1 0": (0, 1, 0, 1, 0), "0 1 0 3": (0, 1, 0, 3), "1 0 0 0": (1, 0, 0, 0),
            "0 0 0 9": (0, 0, 0, 9), " ".join(["0"] * 9999): (0,) * 9999,
        }
        for text, parting in texts.items():
            self.check_refused(BadParting, "value", parting, read_parting, FOUR, text)
            self.check_refused(BadParting, "value", parting, read_parting, text=text, machine=FOUR)

    def test_the_machine_goes_ahead_of_the_text(self):
        for thing, place in bad_machines():
            for text in ("0 1 0 1", "", None, "0 0 0 9"):
                self.check_refused(BadMachine, "place", place, read_parting, thing, text)
