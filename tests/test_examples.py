"""A counter to six is split into one to two and one to three; one to four is a row, and is bound.

>>> from keptpartings.codes import best_code, cost, lots
>>> from keptpartings.kept import drawn, kept_partings, led_table
>>> from keptpartings.ladders import longest_ladder, needs, width
>>> from keptpartings.sides import is_split, split_paper
>>> from keptpartings.shown import alike, parting_word
>>> six = (((1,), (2,), (3,), (4,), (5,), (0,)), (0, 0, 0, 0, 0, 1))
>>> four = (((1,), (2,), (3,), (0,)), (0, 0, 0, 1))
>>> kept_partings(six)
((0, 0, 0, 0, 0, 0), (0, 1, 0, 1, 0, 1), (0, 1, 2, 0, 1, 2), (0, 1, 2, 3, 4, 5))
>>> is_split(six), is_split(four)
(True, False)
>>> split_paper(four)[:3]
('bound', 0, 2)
>>> led_table(six, drawn(six, 0, 2))
((1,), (0,))
>>> longest_ladder(four), needs(four, longest_ladder(four)), width(six)
(((0, 0, 0, 0), (0, 1, 0, 1), (0, 1, 2, 3)), (2, 2), 3)
>>> best_code(four), cost(four, best_code(four))
(((0, 0, 1, 1), (0, 1, 1, 0)), 2)
>>> alike(six), parting_word(four, 0, 1)
((0, 1, 2, 3, 4, 5), (0, 0))
"""

import doctest
import sys
import unittest


class Examples(unittest.TestCase):
    def test_they_come_out_as_printed(self):
        found = doctest.testmod(sys.modules[__name__])
        self.assertEqual((found.attempted, found.failed), (14, 0))
