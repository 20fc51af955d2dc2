import unittest

from queenrows.settings import is_number, is_place, is_setting, is_size
from tests.kinds import no_numbers, no_settings


class SettingsTest(unittest.TestCase):

    def test_numbers(self):
        for value in (-10**50, -1, 0, 1, 2, 10**5000):
            self.assertIs(is_number(value), True)

    def test_sizes(self):
        for value in (1, 2, 3, 4, 200, 201, 10**5000):
            self.assertIs(is_size(value), True)
        for value in (0, -1, -10**50):
            self.assertIs(is_size(value), False)

    def test_places(self):
        for size in (1, 2, 5, 10**50):
            for value in (0, size // 2, size - 1):
                self.assertIs(is_place(size, value), True)
            for value in (-size, -1, size, size + 1):
                self.assertIs(is_place(size, value), False)

    def test_settings(self):
        for value in ([0], [0, 0], [1, 0], [2, 2, 2], [1, 3, 0, 2], list(range(200)), [300] * 301):
            self.assertIs(is_setting(value), True)
        for at, value in enumerate(no_settings()):
            with self.subTest(at=at):
                self.assertIs(is_setting(value), False)

    def test_what_is_no_number_is_no_size_and_no_place(self):
        for at, value in enumerate(no_numbers()):
            with self.subTest(at=at):
                self.assertIs(is_number(value), False)
                self.assertIs(is_size(value), False)
                self.assertIs(is_place(10, value), False)


if __name__ == "__main__":
    unittest.main()
