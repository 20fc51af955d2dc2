import inspect
import pathlib
import random
import subprocess
import sys
import unittest

from queenrows.errors import BadPlace, BadSize, NoSetting
from queenrows.placing import column, row_of, setting
from tests.boards import take
from tests.kinds import no_numbers
from tests.refusals import Refusals

ROOT = pathlib.Path(__file__).resolve().parent.parent
LISTED = [1] + list(range(4, 201))
# Each remainder by 12 stands behind each of these, and the last has more figures than Python writes out.
GREAT = [start + more for start in (10**6, 10**9 + 6, 10**40, 7 * 10**61, 2**300, 10**5000) for more in range(12)]


def at_peace(rows, columns):
    """Whether queens in different rows leave one another alone, in one pass."""
    places = list(zip(rows, columns))
    many = len(places)
    return (len({at for row, at in places}) == many
            and len({at - row for row, at in places}) == many
            and len({at + row for row, at in places}) == many)


def marked_places(size):
    """The first, the last and the middle ones, and those beside them."""
    half = size // 2
    places = [*range(5), *range(half - 4, half + 5), *range(size - 5, size)]
    return sorted({place for place in places if 0 <= place < size})


def drawn_places(size):
    """Drawn ones, each with its neighbours, both halves alike."""
    draw = random.Random(size)
    drawn = [draw.randrange(size) for turn in range(40)]
    near = [place + beside for place in drawn for beside in range(-12, 13)]
    return [place for place in near if 0 <= place < size]


class ListedTest(unittest.TestCase):
    """Every size of which the whole setting is told as a list."""

    def test_it_is_a_setting(self):
        for size in LISTED:
            with self.subTest(size):
                told = setting(size)
                self.assertIs(type(told), list)
                self.assertEqual(len(told), size)
                for at in told:
                    self.assertIs(type(at), int)
                self.assertEqual(sorted(told), list(range(size)))

    def test_it_is_at_peace(self):
        for size in LISTED:
            told = setting(size)
            for row in range(size):
                for other in range(row):
                    if take(row, told[row], other, told[other]):
                        self.fail(f"of size {size} the rows {other} and {row} take one another")

    def test_column_tells_its_entries(self):
        for size in LISTED:
            with self.subTest(size):
                self.assertEqual([column(size, row) for row in range(size)], setting(size))

    def test_row_of_goes_back(self):
        for size in LISTED:
            with self.subTest(size):
                self.assertEqual([row_of(size, column(size, row)) for row in range(size)], list(range(size)))
                self.assertEqual([column(size, row_of(size, at)) for at in range(size)], list(range(size)))

    def test_numbers_told_are_plain(self):
        for size in LISTED:
            for place in range(size):
                self.assertIs(type(column(size, place)), int)
                self.assertIs(type(row_of(size, place)), int)

    def test_it_is_the_same_again_and_new(self):
        for size in LISTED:
            with self.subTest(size):
                first = setting(size)
                kept = list(first)
                first.reverse()
                first[0] = "spoiled"
                first.append(size)
                second = setting(size)
                self.assertIsNot(first, second)
                self.assertEqual(second, kept)
                self.assertEqual([column(size, row) for row in range(size)], kept)

    def test_the_least_sizes(self):
        self.assertEqual(setting(1), [0])
        self.assertEqual((column(1, 0), row_of(1, 0)), (0, 0))
        self.assertIn(setting(4), ([1, 3, 0, 2], [2, 0, 3, 1]))
        self.assertEqual(sorted(setting(5)), [0, 1, 2, 3, 4])


class BeyondTest(unittest.TestCase):
    """Sizes above those that are listed."""

    def test_whole_boards_above_the_limit_of_lists(self):
        for size in [*range(201, 500), *range(1000, 1012), *range(6000, 6012)]:
            with self.subTest(size):
                columns = [column(size, row) for row in range(size)]
                # assertTrue, since assertEqual would take minutes to show how long lists differ.
                self.assertTrue(sorted(columns) == list(range(size)))
                self.assertTrue(at_peace(range(size), columns))
                self.assertTrue([row_of(size, at) for at in columns] == list(range(size)))

    def test_there_and_back(self):
        for at, size in enumerate(GREAT):
            for place in marked_places(size) + drawn_places(size):
                told = column(size, place)
                if not (type(told) is int and 0 <= told < size and row_of(size, told) == place):
                    self.fail(f"great size {at}: from a row and back")
                told = row_of(size, place)
                if not (type(told) is int and 0 <= told < size and column(size, told) == place):
                    self.fail(f"great size {at}: from a column and back")

    def test_peace_among_marked_and_drawn_rows(self):
        for at, size in enumerate(GREAT):
            rows = sorted(set(marked_places(size) + drawn_places(size)))
            self.assertTrue(at_peace(rows, [column(size, row) for row in rows]), f"great size {at}")

    def test_peace_with_the_queens_of_columns_near_by(self):
        # Neighbouring rows lie in one half; queens in neighbouring columns lie in both.
        for at, size in enumerate(GREAT):
            columns = sorted(set(marked_places(size) + drawn_places(size)))
            self.assertTrue(at_peace([row_of(size, place) for place in columns], columns), f"great size {at}")

    def test_no_queen_on_the_diagonals_of_drawn_queens(self):
        for at, size in enumerate(GREAT):
            draw = random.Random(at)
            for row in marked_places(size) + [draw.randrange(size) for turn in range(20)]:
                place = column(size, row)
                for apart in [*range(1, 20), *(draw.randrange(1, size) for turn in range(20))]:
                    for other in (row - apart, row + apart):
                        if 0 <= other < size and take(row, place, other, column(size, other)):
                            self.fail(f"great size {at}: two queens take one another")

    def test_the_same_again(self):
        for size in GREAT:
            for place in marked_places(size):
                self.assertTrue(column(size, place) == column(size, place))
                self.assertTrue(row_of(size, place) == row_of(size, place))

    def test_at_once(self):
        # In a process of its own, so that an answer that never comes fails instead of hanging.
        lines = [
            "from queenrows.placing import column, row_of",
            "for size in [10**figures + more for figures in (12, 40, 1000, 20000) for more in range(12)]:",
            "    for row in (0, 1, size // 3, size // 2 - 1, size // 2, size - 2, size - 1):",
            "        assert row_of(size, column(size, row)) == row",
        ]
        done = subprocess.run([sys.executable, "-c", "\n".join(lines)], cwd=ROOT, timeout=60, capture_output=True)
        self.assertEqual(done.returncode, 0, done.stderr.decode())


class RefusedTest(Refusals, unittest.TestCase):

    def test_no_size(self):
        for at, size in enumerate([0, -1, -4, -10**50, -10**5000] + no_numbers()):
            with self.subTest(at=at):
                self.assert_refused(BadSize, column, size, 0)
                self.assert_refused(BadSize, row_of, size, 0)
                self.assert_refused(BadSize, setting, size)

    def test_two_and_three(self):
        for size in (2, 3):
            for place in range(size):
                self.assert_refused(NoSetting, column, size, place)
                self.assert_refused(NoSetting, row_of, size, place)
            self.assert_refused(NoSetting, setting, size)

    def test_no_place(self):
        for size in (1, 4, 5, 8, 9, 200, 201, 10**40, 10**5000):
            for at, place in enumerate([-1, -size, size, size + 1, 2 * size] + no_numbers()):
                with self.subTest(size=size.bit_length(), at=at):
                    self.assert_refused(BadPlace, column, size, place)
                    self.assert_refused(BadPlace, row_of, size, place)

    def test_places_at_the_edges_are_not_refused(self):
        for size in (1, 4, 5, 8, 9, 200, 201, 10**40, 10**5000):
            for place in (0, size - 1):
                self.assertTrue(0 <= column(size, place) < size)
                self.assertTrue(0 <= row_of(size, place) < size)

    def test_lists_end_at_two_hundred(self):
        self.assertEqual(len(setting(200)), 200)
        for size in (201, 202, 1000, 10**40, 10**5000):
            self.assert_refused(BadSize, setting, size)

    def test_the_size_is_refused_before_the_place(self):
        for at, wrong in enumerate([-1, 0, 10**50] + no_numbers()):
            with self.subTest(at=at):
                for size in (0, -1, True, None, "4", [4]):
                    self.assert_refused(BadSize, column, size, wrong)
                    self.assert_refused(BadSize, row_of, size, wrong)
                for size in (2, 3):
                    self.assert_refused(NoSetting, column, size, wrong)
                    self.assert_refused(NoSetting, row_of, size, wrong)

    def test_what_is_refused_is_not_changed(self):
        size, place = [4, [5]], {0: [1]}
        self.assert_refused(BadSize, column, size, place)
        self.assert_refused(BadSize, row_of, size, place)
        self.assert_refused(BadSize, setting, size)
        self.assert_refused(BadPlace, column, 4, place)
        self.assert_refused(BadPlace, row_of, 4, place)
        self.assertEqual((size, place), ([4, [5]], {0: [1]}))


class InterfaceTest(unittest.TestCase):

    def test_arguments(self):
        self.assertEqual(list(inspect.signature(column).parameters), ["size", "row"])
        self.assertEqual(list(inspect.signature(row_of).parameters), ["size", "column"])
        self.assertEqual(list(inspect.signature(setting).parameters), ["size"])
        self.assertEqual(row_of(size=9, column=column(size=9, row=3)), 3)
        self.assertEqual(setting(size=4), setting(4))


if __name__ == "__main__":
    unittest.main()
