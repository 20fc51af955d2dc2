"""The parts of the program held against one another."""

import unittest

from queenrows.answers import JoinedPeace, JoinedTake, Peace, Step
from queenrows.judging import step, told, told_joined
from queenrows.making import exchanged, mirrored, product, upended
from queenrows.placing import row_of, setting
from tests.boards import stepped

SIZES = [1] + list(range(4, 201))


class WholeTest(unittest.TestCase):

    def test_placed_settings_are_told_to_be_at_peace(self):
        for size in SIZES:
            self.assertIsInstance(told(setting(size)), Peace)

    def test_and_stay_so_when_turned(self):
        for size in SIZES:
            for make in (mirrored, upended, exchanged):
                self.assertIsInstance(told(make(setting(size))), Peace)

    def test_exchanged_tells_the_rows_of_the_columns(self):
        for size in SIZES:
            self.assertEqual(exchanged(setting(size)), [row_of(size, at) for at in range(size)])

    def test_told_steps_make_inner_settings(self):
        for size in range(1, 201):
            answer = step(size)
            if isinstance(answer, Step):
                inner = stepped(size, answer.step)
                self.assertIsInstance(told_joined(inner), JoinedPeace)
                self.assertEqual(product([0], inner), inner)
            elif size not in (2, 3):
                self.assertIsInstance(told_joined(setting(size)), JoinedTake)

    def test_products_are_told_to_be_at_peace(self):
        for size in range(4, 41):
            outer, inner = setting(size), stepped(5, 2)
            made = product(outer, inner)
            self.assertIsInstance(told(made), Peace)
            self.assertIs(type(told_joined(made)), type(told_joined(outer)))


if __name__ == "__main__":
    unittest.main()
