import inspect
import unittest

from keptpartings import errors
from keptpartings.errors import (
    Alone, BadCode, BadMachine, BadNumber, BadPaper, BadParting, BadRow, BadStanding, BadText, BadWord,
    NothingLeft, PartError, TooGreat,
)
from tests.samples import FOUR, ODD

FIELDS = {
    BadMachine: "place", BadWord: "place", BadParting: "value", BadStanding: "value", BadRow: "value",
    BadCode: "value", BadNumber: "value", BadPaper: "word", TooGreat: "most",
}
BASES = {
    PartError: ValueError, BadMachine: PartError, BadWord: PartError, BadParting: PartError,
    BadStanding: PartError, BadRow: PartError, BadCode: PartError, BadNumber: PartError, BadPaper: PartError,
    BadText: PartError, NothingLeft: PartError, TooGreat: OverflowError, Alone: LookupError,
}


class Errors(unittest.TestCase):
    def test_each_class_has_the_one_base_that_is_told(self):
        for error, base in BASES.items():
            with self.subTest(error=error.__name__):
                self.assertEqual(error.__bases__, (base,))

    def test_there_are_no_other_classes(self):
        found = [thing for _, thing in inspect.getmembers(errors, inspect.isclass)]
        self.assertEqual(set(found), set(BASES))

    def test_the_field_is_what_it_was_made_with(self):
        for error, field in FIELDS.items():
            for value in ODD + [FOUR, 0, 1, (), (0, 1)]:
                with self.subTest(error=error.__name__, value=value):
                    self.assertIs(getattr(error(value), field), value)
                    self.assertIs(getattr(error(**{field: value}), field), value)

    def test_a_value_of_any_kind_does_no_harm_when_the_error_is_shown(self):
        for error in FIELDS:
            self.assertIsInstance(str(error(10 ** 5000)), str)

    def test_a_bad_text_has_two_fields(self):
        for line in ODD:
            for word in ODD:
                for error in (BadText(line, word), BadText(line=line, word=word), BadText(word=word, line=line)):
                    self.assertIs(error.line, line)
                    self.assertIs(error.word, word)

    def test_one_error_does_not_change_another(self):
        first, second = BadMachine((0,)), BadMachine((1,))
        self.assertEqual((first.place, second.place), ((0,), (1,)))

    def test_fields_are_not_left_out_and_not_added(self):
        for error, field in FIELDS.items():
            self.assertRaises(TypeError, error)
            self.assertRaises(TypeError, error, 0, 0)
            self.assertEqual(list(vars(error(0))), [field])
        self.assertRaises(TypeError, BadText, 0)

    def test_alone_and_nothing_left_are_made_without_arguments(self):
        self.assertRaises(TypeError, Alone, 0)
        self.assertRaises(TypeError, NothingLeft, 0)
        with self.assertRaises(LookupError):
            raise Alone()
        with self.assertRaises(PartError):
            raise NothingLeft()

    def test_a_part_error_is_made_with_any_text(self):
        for text in ("", "a text", "two\nlines", "x" * 20000):
            error = PartError(text)
            self.assertEqual(str(error), text)
            self.assertEqual(error.args, (text,))

    def test_each_is_caught_by_the_name_of_its_base(self):
        for error, base in BASES.items():
            if error in FIELDS:
                with self.assertRaises(base):
                    raise error(())
        self.assertFalse(issubclass(TooGreat, PartError))
        self.assertFalse(issubclass(Alone, PartError))

    def test_operators_are_not_described_for_errors(self):
        for error in [kind(0) for kind in FIELDS] + [BadText(0, 0), NothingLeft(), Alone(), PartError("")]:
            for value in ODD + [0]:
                self.assertIs(error == value, False)
                self.assertIs(error != value, True)
                with self.assertRaises(TypeError):
                    error < value
                with self.assertRaises(TypeError):
                    error + value
