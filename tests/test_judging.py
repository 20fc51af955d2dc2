import inspect
import itertools
import pathlib
import subprocess
import sys
import unittest

from queenrows import answers
from queenrows.answers import Answer, Barred, JoinedPeace, JoinedTake, Peace, Step, Take
from queenrows.errors import BadSetting, BadSize
from queenrows.judging import step, told, told_joined
from tests.boards import drawn_settings, every_setting, joined_taking_pairs, stairs, stepped, taking_pairs
from tests.kinds import no_numbers, no_settings
from tests.refusals import Refusals

ROOT = pathlib.Path(__file__).resolve().parent.parent
KINDS = [Peace, JoinedPeace, Take, JoinedTake, Step, Barred]
# Each remainder by 12 stands behind each of these, and the last has more figures than Python writes out.
GREAT = [start + more for start in (10**6, 10**40, 7 * 10**61, 2**300, 10**5000) for more in range(12)]


class Answers(Refusals):
    """Beside unittest.TestCase."""

    def assert_only(self, kind, answer):
        """The answer is of this very class, and of no other but Answer."""
        self.assertIs(type(answer), kind)
        self.assertIsInstance(answer, Answer)
        for other in KINDS:
            self.assertEqual(isinstance(answer, other), other is kind)

    def assert_judged(self, answer, setting, pairs, peace, taking):
        if not pairs:
            self.assert_only(peace, answer)
        else:
            self.assert_only(taking, answer)
            self.assertIs(type(answer.one), int)
            self.assertIs(type(answer.other), int)
            self.assertIn((answer.one, answer.other), pairs)
        self.assertIs(answer.shows(setting), True)


class ToldTest(Answers, unittest.TestCase):

    def assert_told(self, setting):
        kept = list(setting)
        self.assert_judged(told(setting), setting, taking_pairs(setting), Peace, Take)
        self.assert_judged(told_joined(setting), setting, joined_taking_pairs(setting), JoinedPeace, JoinedTake)
        self.assertEqual(setting, kept)

    def test_every_setting_of_few_rows(self):
        for setting in every_setting(5):
            self.assert_told(setting)

    def test_every_order_of_seven_columns(self):
        # Among these are some whose queens take one another in one direction only, over the joined edge.
        for columns in itertools.permutations(range(7)):
            self.assert_told(list(columns))

    def test_drawn_settings(self):
        for setting in drawn_settings():
            with self.subTest(setting):
                self.assert_told(setting)

    def test_the_drawn_ones_are_of_every_sort(self):
        # Else the test above would look at less than it seems to.
        sorts = {(len(setting), not taking_pairs(setting), not joined_taking_pairs(setting))
                 for setting in drawn_settings()}
        for size in (1, 5, 25, 35, 199):
            self.assertIn((size, True, True), sorts)
        for size in (2, 3, 4, 10, 13, 40, 199, 200):
            self.assertIn((size, False, False), sorts)
        for size in (4, 6, 8, 10, 40, 198, 200):
            self.assertIn((size, True, False), sorts)

    def test_a_single_pair_is_found_wherever_it_lies(self):
        for size in (11, 13):
            for row in range(size):
                for at in range(size):
                    setting = stepped(size, 2)
                    setting[row] = at
                    self.assert_told(setting)

    def test_taking_only_over_the_joined_edge(self):
        setting = [1, 3, 0, 2]
        self.assert_only(Peace, told(setting))
        self.assert_only(JoinedTake, told_joined(setting))

    def test_one_row(self):
        self.assert_only(Peace, told([0]))
        self.assert_only(JoinedPeace, told_joined([0]))

    def test_two_hundred_rows_are_judged(self):
        self.assert_only(Peace, told(stairs(200)))
        self.assert_only(Take, told(list(range(200))))
        self.assert_only(JoinedTake, told_joined(list(range(200))))
        self.assert_only(JoinedPeace, told_joined(stepped(199, 2)))

    def test_a_setting_changed_in_place_is_judged_anew(self):
        setting = [0, 2, 4, 1, 3]
        self.assert_only(Peace, told(setting))
        self.assert_only(JoinedPeace, told_joined(setting))
        setting[1] = 1
        self.assert_told(setting)
        self.assert_only(Take, told(setting))
        self.assert_only(JoinedTake, told_joined(setting))
        setting[1] = 2
        self.assert_only(Peace, told(setting))
        self.assert_only(JoinedPeace, told_joined(setting))
        setting.append(5)
        self.assert_told(setting)

    def test_answers_are_new_and_hold_nothing_handed_in(self):
        for judge in (told, told_joined):
            for setting in ([0, 2, 4, 1, 3], [0, 0, 0]):
                first = judge(setting)
                held = dict(vars(first))
                for name in held:
                    setattr(first, name, -7)
                second = judge(setting)
                self.assertIsNot(first, second)
                self.assertEqual(vars(second), held)
                for value in held.values():
                    self.assertIs(type(value), int)

    def test_what_is_no_setting_is_refused(self):
        for at, wrong in enumerate(no_settings()):
            with self.subTest(at=at):
                self.assert_refused(BadSetting, told, wrong)
                self.assert_refused(BadSetting, told_joined, wrong)

    def test_more_than_two_hundred_rows_are_refused(self):
        for setting in (stepped(203, 2), [0] * 201, list(range(201)), [0] * 1000):
            self.assert_refused(BadSetting, told, setting)
            self.assert_refused(BadSetting, told_joined, setting)

    def test_what_is_refused_is_not_changed(self):
        wrong = [0, [2], 4, {1: 3}]
        self.assert_refused(BadSetting, told, wrong)
        self.assert_refused(BadSetting, told_joined, wrong)
        self.assertEqual(wrong, [0, [2], 4, {1: 3}])


class StepTest(Answers, unittest.TestCase):

    def assert_barred_or_not(self, size):
        answer = step(size)
        if size % 2 == 0 or size % 3 == 0:
            self.assert_only(Barred, answer)
            self.assertIs(type(answer.by), int)
            self.assertIn(answer.by, (2, 3))
            self.assertEqual(size % answer.by, 0)
        else:
            self.assert_only(Step, answer)
            self.assertIs(type(answer.step), int)
            self.assertTrue(0 <= answer.step < size)
        self.assertIs(answer.shows(size), True)
        return answer

    def test_small_sizes_looked_at_whole(self):
        for size in range(1, 500):
            answer = self.assert_barred_or_not(size)
            if isinstance(answer, Step) and size < 200:
                self.assertEqual(joined_taking_pairs(stepped(size, answer.step)), set())
            elif isinstance(answer, Step):
                columns = stepped(size, answer.step)
                for more in (-1, 0, 1):
                    self.assertEqual(len({(at + more * row) % size for row, at in enumerate(columns)}), size)

    def test_great_sizes(self):
        for size in GREAT:
            self.assert_barred_or_not(size)

    def test_great_sizes_have_every_remainder(self):
        for by in (6, 12):
            self.assertEqual({size % by for size in GREAT if size >= 10**39}, set(range(by)))

    def test_the_least_sizes(self):
        self.assertEqual(step(1).step, 0)
        self.assertEqual(step(2).by, 2)
        self.assertEqual(step(3).by, 3)
        self.assertIn(step(5).step, (2, 3))

    def test_at_once(self):
        # In a process of its own, so that an answer that never comes fails instead of hanging.
        lines = [
            "from queenrows.judging import step",
            "for size in [10**figures + more for figures in (12, 40, 1000, 20000) for more in range(12)]:",
            "    assert step(size).shows(size) is True",
        ]
        done = subprocess.run([sys.executable, "-c", "\n".join(lines)], cwd=ROOT, timeout=60, capture_output=True)
        self.assertEqual(done.returncode, 0, done.stderr.decode())

    def test_answers_are_new(self):
        for size in (1, 5, 6, 9):
            first = step(size)
            held = dict(vars(first))
            for name in held:
                setattr(first, name, -7)
            self.assertEqual(vars(step(size)), held)

    def test_what_is_no_size_is_refused(self):
        for at, wrong in enumerate([0, -1, -5, -10**50, -10**5000] + no_numbers()):
            with self.subTest(at=at):
                self.assert_refused(BadSize, step, wrong)

    def test_what_is_refused_is_not_changed(self):
        wrong = [5, [7]]
        self.assert_refused(BadSize, step, wrong)
        self.assertEqual(wrong, [5, [7]])


class InterfaceTest(unittest.TestCase):

    def test_arguments(self):
        self.assertEqual(list(inspect.signature(told).parameters), ["setting"])
        self.assertEqual(list(inspect.signature(told_joined).parameters), ["setting"])
        self.assertEqual(list(inspect.signature(step).parameters), ["size"])
        self.assertIsInstance(told(setting=[0]), Peace)
        self.assertIsInstance(told_joined(setting=[0]), JoinedPeace)
        self.assertIsInstance(step(size=5), Step)

    def test_every_answer_is_looked_at(self):
        kinds = [kind for kind in vars(answers).values() if isinstance(kind, type) and kind is not Answer]
        self.assertEqual(kinds, KINDS)


if __name__ == "__main__":
    unittest.main()
