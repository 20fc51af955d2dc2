import inspect
import math
import random
import unittest

from queenrows.answers import Answer, Barred, JoinedPeace, JoinedTake, Peace, Step, Take
from tests.boards import drawn_settings, every_setting, joined_taking_pairs, stairs, stepped, taking_pairs

GREAT = 10**5000
SOME = [[0], [0, 0], [0, 1], [2, 0, 1], [1, 3, 0, 2], [0, 2, 4, 1, 3], [0, 2, 4, 1, 1], [3, 3, 3, 3, 3, 3],
        stepped(7, 2), stepped(7, 3), stepped(25, 2), stairs(10)]


def is_good(size, step):
    """Looked at whole: columns, columns less rows and both together are all different by the size."""
    columns = stepped(size, step)
    return 0 <= step < size and all(
        len({(at + more * row) % size for row, at in enumerate(columns)}) == size for more in (-1, 0, 1))


class PeaceTest(unittest.TestCase):

    def assert_shown(self, setting):
        self.assertIs(Peace().shows(setting), not taking_pairs(setting))
        self.assertIs(JoinedPeace().shows(setting), not joined_taking_pairs(setting))

    def test_every_setting_of_few_rows(self):
        for setting in every_setting(5):
            self.assert_shown(setting)

    def test_drawn_settings(self):
        for setting in drawn_settings():
            kept = list(setting)
            self.assert_shown(setting)
            self.assertEqual(setting, kept)

    def test_settings_somewhat_beyond_the_limit(self):
        self.assertIs(Peace().shows(stepped(203, 2)), True)
        self.assertIs(JoinedPeace().shows(stepped(203, 2)), True)
        self.assertIs(Peace().shows([0] * 210), False)
        self.assertIs(JoinedPeace().shows([0] * 210), False)

    def test_a_setting_changed_in_place(self):
        peace, joined, setting = Peace(), JoinedPeace(), [0, 2, 4, 1, 3]
        self.assertIs(peace.shows(setting), True)
        self.assertIs(joined.shows(setting), True)
        setting[4] = 0
        self.assertIs(peace.shows(setting), False)
        self.assertIs(joined.shows(setting), False)


class TakeTest(unittest.TestCase):

    def assert_shown(self, setting, one, other, pairs, joined_pairs):
        self.assertIs(Take(one, other).shows(setting), (one, other) in pairs)
        self.assertIs(JoinedTake(one, other).shows(setting), (one, other) in joined_pairs)

    def test_any_two_rows_of_few(self):
        for setting in list(every_setting(4)) + SOME:
            pairs, joined_pairs = taking_pairs(setting), joined_taking_pairs(setting)
            rows = range(-len(setting) - 1, len(setting) + 2)
            for one in rows:
                for other in rows:
                    self.assert_shown(setting, one, other, pairs, joined_pairs)

    def test_drawn_rows_of_drawn_settings(self):
        draw = random.Random(5)
        for setting in drawn_settings():
            size = len(setting)
            pairs, joined_pairs = taking_pairs(setting), joined_taking_pairs(setting)
            drawn = [(draw.randrange(size), draw.randrange(size)) for turn in range(20)]
            for one, other in drawn + sorted(pairs)[:10] + sorted(joined_pairs)[-10:]:
                self.assert_shown(setting, one, other, pairs, joined_pairs)
                self.assert_shown(setting, other, one, pairs, joined_pairs)

    def test_rows_of_very_many_figures(self):
        for setting in SOME:
            for great in (-GREAT, GREAT, GREAT * len(setting)):
                for row in (0, 1, len(setting) - 1, great, great + 1):
                    self.assert_shown(setting, row, great, set(), set())
                    self.assert_shown(setting, great, row, set(), set())

    def test_rows_counted_from_the_end_are_none(self):
        self.assertIs(Take(0, 1).shows([0, 1]), True)
        self.assertIs(Take(0, -1).shows([0, 1]), False)
        self.assertIs(Take(-2, 1).shows([0, 1]), False)
        self.assertIs(Take(-2, -1).shows([0, 1]), False)
        self.assertIs(JoinedTake(-2, -1).shows([0, 1]), False)

    def test_the_last_rows_of_the_greatest_settings(self):
        setting = list(range(200))
        for kind in (Take, JoinedTake):
            self.assertIs(kind(0, 199).shows(setting), True)
            self.assertIs(kind(198, 199).shows(setting), True)
            self.assertIs(kind(199, 200).shows(setting), False)
            self.assertIs(kind(199, 199).shows(setting), False)

    def test_fields_changed_afterwards(self):
        for kind in (Take, JoinedTake):
            answer = kind(0, 1)
            self.assertIs(answer.shows([0, 1, 2, 3]), True)
            answer.one = 1
            self.assertIs(answer.shows([0, 1, 2, 3]), False)
            answer.other = 3
            self.assertIs(answer.shows([0, 1, 2, 3]), True)
            answer.other = 4
            self.assertIs(answer.shows([0, 1, 2, 3]), False)
            answer.one, answer.other = 3, 0
            self.assertIs(answer.shows([0, 1, 2, 3]), False)
            answer.one, answer.other = 0, 3
            self.assertIs(answer.shows([0, 1, 2, 3]), True)

    def test_a_setting_changed_in_place(self):
        setting = [0, 0, 1]
        self.assertIs(Take(0, 1).shows(setting), True)
        setting[1] = 2
        self.assertIs(Take(0, 1).shows(setting), False)
        self.assertIs(JoinedTake(0, 1).shows(setting), True)


class StepTest(unittest.TestCase):

    def test_small_sizes_looked_at_whole(self):
        for size in range(1, 90):
            for step in range(-size - 2, 2 * size + 3):
                self.assertIs(Step(step).shows(size), is_good(size, step), (size, step))

    def test_greater_sizes(self):
        for size in (199, 209, 385, 1001, 1155):
            for step in range(size):
                good = math.gcd(size, (step - 1) * step * (step + 1)) == 1
                self.assertIs(Step(step).shows(size), good, (size, step))

    def test_great_sizes(self):
        draw = random.Random(4)
        for start in (10**40, 7 * 10**61, GREAT):
            for size in range(start, start + 12):
                for step in [0, 1, 2, 3, 4, 5, size // 2, size - 3, size - 2, size - 1, draw.randrange(size)]:
                    good = math.gcd(size, (step - 1) * step * (step + 1)) == 1
                    self.assertIs(Step(step).shows(size), good)
                for step in (-size, 2 - size, -2, -1, size, size + 1, size + 2, 10 * size + 2):
                    self.assertIs(Step(step).shows(size), False)

    def test_divisors_that_only_one_number_beside_the_step_shares(self):
        size = 35 * (10**40 + 121)
        self.assertNotEqual(size % 2, 0)
        self.assertNotEqual(size % 3, 0)
        for step in (34, 35, 36):
            self.assertIs(Step(step).shows(size), False)
        self.assertIs(Step(2).shows(size), True)

    def test_very_great_steps(self):
        for size in (1, 2, 3, 5, 7, 25, 10**40 + 1):
            for step in (GREAT, -GREAT, GREAT * size, GREAT * size + 2):
                self.assertIs(Step(step).shows(size), False)

    def test_the_board_of_one_place(self):
        self.assertIs(Step(0).shows(1), True)
        for step in (-2, -1, 1, 2):
            self.assertIs(Step(step).shows(1), False)

    def test_the_field_changed_afterwards(self):
        answer = Step(2)
        self.assertIs(answer.shows(5), True)
        answer.step = 4
        self.assertIs(answer.shows(5), False)
        answer.step = 3
        self.assertIs(answer.shows(5), True)
        answer.step = 8
        self.assertIs(answer.shows(5), False)


class BarredTest(unittest.TestCase):

    def test_sizes_and_numbers(self):
        sizes = [*range(1, 80), *range(10**40, 10**40 + 12), *range(GREAT, GREAT + 12)]
        for size in sizes:
            for by in (2, 3):
                self.assertIs(Barred(by).shows(size), size % by == 0)
            for by in (-GREAT, -6, -3, -2, -1, 0, 1, 4, 5, 6, 9, 12, size, 2 * size, GREAT):
                if by not in (2, 3):
                    self.assertIs(Barred(by).shows(size), False)

    def test_the_field_changed_afterwards(self):
        answer = Barred(2)
        self.assertIs(answer.shows(4), True)
        answer.by = 3
        self.assertIs(answer.shows(4), False)
        self.assertIs(answer.shows(9), True)
        answer.by = 6
        self.assertIs(answer.shows(6), False)
        answer.by = 0
        self.assertIs(answer.shows(6), False)

    def test_never_both(self):
        for size in range(1, 60):
            barred = Barred(2).shows(size) or Barred(3).shows(size)
            stepping = any(Step(step).shows(size) for step in range(size))
            self.assertIs(barred, not stepping)


class InterfaceTest(unittest.TestCase):
    FIELDS = [(Peace, []), (JoinedPeace, []), (Take, ["one", "other"]), (JoinedTake, ["one", "other"]),
              (Step, ["step"]), (Barred, ["by"])]

    def test_straight_under_answer(self):
        self.assertEqual(Answer.__bases__, (object,))
        for kind, fields in self.FIELDS:
            self.assertEqual(kind.__bases__, (Answer,))

    def test_fields_are_arguments_and_attributes(self):
        for kind, fields in self.FIELDS:
            self.assertEqual(list(inspect.signature(kind).parameters), fields)
            values = {name: 7 + at for at, name in enumerate(fields)}
            self.assertEqual(vars(kind(**values)), values)
            self.assertEqual(vars(kind(*values.values())), values)

    def test_each_class_has_its_own_shows(self):
        for kind, fields in self.FIELDS:
            argument = "size" if kind in (Step, Barred) else "setting"
            self.assertIn("shows", vars(kind))
            self.assertEqual(list(inspect.signature(vars(kind)["shows"]).parameters), ["self", argument])


if __name__ == "__main__":
    unittest.main()
