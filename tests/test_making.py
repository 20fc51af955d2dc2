import inspect
import unittest

from queenrows.errors import BadSetting, NoPeace
from queenrows.making import exchanged, mirrored, product, upended
from tests.boards import (drawn_settings, every_setting, joined_taking_pairs, peaceful_settings, stairs, stepped,
                          taking_pairs)
from tests.kinds import no_settings
from tests.refusals import Refusals

# Settings to stand outside, at peace, and inside, at peace on the joined board, too.
OUTER = [[0], *peaceful_settings(range(4, 17)), stairs(40)]
INNER = [[0], *(stepped(size, step) for size, step in ((5, 2), (5, 3), (7, 2), (7, 4), (11, 3), (13, 5), (25, 2))),
         [3, 0, 2, 4, 1]]
# The last is at peace on the board, but not on the joined one.
UNJOINED = [[0, 0], [0, 1], [1, 0, 2], list(range(5)), [1, 3, 0, 2]]
TAKING = UNJOINED[:-1]


def at_places(setting):
    return {(row, at) for row, at in enumerate(setting)}


def product_places(outer, inner):
    """Place by place: inside each place of the outer board that has a queen, the inner board's queens."""
    size = len(inner)
    return {(row * size + inner_row, at * size + inner_at)
            for row, at in enumerate(outer) for inner_row, inner_at in enumerate(inner)}


class Settings(Refusals):
    """Beside unittest.TestCase."""

    def assert_setting(self, made, size):
        self.assertIs(type(made), list)
        self.assertEqual(len(made), size)
        for at in made:
            self.assertIs(type(at), int)
            self.assertTrue(0 <= at < size)

    def assert_made_new(self, make, setting):
        """What was handed in stays, and what was told can be spoiled without being told again."""
        kept = list(setting)
        first = make(setting)
        told = list(first)
        self.assertIsNot(first, setting)
        self.assertEqual(setting, kept)
        first.append("spoiled")
        first[0] = "spoiled"
        self.assertEqual(setting, kept)
        self.assertEqual(make(setting), told)


class TurnedTest(Settings, unittest.TestCase):

    def settings(self):
        return list(every_setting(4)) + list(drawn_settings())

    def test_mirrored_place_by_place(self):
        for setting in self.settings():
            made, last = mirrored(setting), len(setting) - 1
            self.assert_setting(made, len(setting))
            self.assertEqual(at_places(made), {(row, last - at) for row, at in at_places(setting)})

    def test_upended_place_by_place(self):
        for setting in self.settings():
            made, last = upended(setting), len(setting) - 1
            self.assert_setting(made, len(setting))
            self.assertEqual(at_places(made), {(last - row, at) for row, at in at_places(setting)})

    def test_exchanged_place_by_place(self):
        for setting in self.settings():
            if not taking_pairs(setting):
                made = exchanged(setting)
                self.assert_setting(made, len(setting))
                self.assertEqual(at_places(made), {(at, row) for row, at in at_places(setting)})

    def test_exchanged_only_at_peace(self):
        for setting in self.settings():
            if taking_pairs(setting):
                self.assert_refused(NoPeace, exchanged, setting)

    def test_peace_on_the_joined_board_is_not_asked_for(self):
        self.assertEqual(exchanged([1, 3, 0, 2]), [2, 0, 3, 1])

    def test_twice_in_a_row(self):
        for setting in self.settings():
            self.assertEqual(mirrored(mirrored(setting)), setting)
            self.assertEqual(upended(upended(setting)), setting)
            if not taking_pairs(setting):
                self.assertEqual(exchanged(exchanged(setting)), setting)

    def test_plain_ones(self):
        self.assertEqual(mirrored([0, 0, 1]), [2, 2, 1])
        self.assertEqual(upended([0, 0, 1]), [1, 0, 0])
        self.assertEqual(exchanged([1, 4, 2, 0, 3]), [3, 0, 2, 4, 1])
        for make in (mirrored, upended, exchanged):
            self.assertEqual(make([0]), [0])

    def test_made_new(self):
        for make in (mirrored, upended, exchanged):
            for setting in ([0], [1, 3, 0, 2], [0, 2, 4, 1, 3], stepped(199, 2), stairs(200)):
                self.assert_made_new(make, setting)

    def test_a_setting_changed_in_place_is_made_anew(self):
        setting = [0, 2, 4, 1, 3]
        for make in (mirrored, upended, exchanged):
            make(setting)
        setting[:] = [1, 3, 0, 2]
        self.assertEqual(mirrored(setting), [2, 0, 3, 1])
        self.assertEqual(upended(setting), [2, 0, 3, 1])
        self.assertEqual(exchanged(setting), [2, 0, 3, 1])
        setting[0] = 3
        self.assertEqual(mirrored(setting), [0, 0, 3, 1])
        self.assertEqual(upended(setting), [2, 0, 3, 3])
        self.assert_refused(NoPeace, exchanged, setting)

    def test_what_is_no_setting_is_refused(self):
        for at, wrong in enumerate(no_settings()):
            with self.subTest(at=at):
                for make in (mirrored, upended, exchanged):
                    self.assert_refused(BadSetting, make, wrong)

    def test_no_setting_is_told_before_no_peace(self):
        for wrong in ([0, 0, True], [0, 0, 3], [0, 0, None], [-1, 0, 0], [0, 1.0, 0]):
            self.assert_refused(BadSetting, exchanged, wrong)

    def test_what_is_refused_is_not_changed(self):
        wrong, taking = [0, [2], 4, {1: 3}], [0, 0, 1]
        for make in (mirrored, upended, exchanged):
            self.assert_refused(BadSetting, make, wrong)
        self.assert_refused(NoPeace, exchanged, taking)
        self.assertEqual((wrong, taking), ([0, [2], 4, {1: 3}], [0, 0, 1]))


class ProductTest(Settings, unittest.TestCase):

    def pairs(self):
        return [(outer, inner) for outer in OUTER for inner in INNER if len(outer) * len(inner) <= 200]

    def test_place_by_place(self):
        for outer, inner in self.pairs():
            made = product(outer, inner)
            self.assert_setting(made, len(outer) * len(inner))
            self.assertEqual(at_places(made), product_places(outer, inner))

    def test_at_peace_and_joined_just_where_the_outer_one_is(self):
        for outer, inner in self.pairs():
            made = product(outer, inner)
            self.assertEqual(taking_pairs(made), set())
            self.assertEqual(not joined_taking_pairs(made), not joined_taking_pairs(outer))

    def test_a_plain_one(self):
        self.assertEqual(product([1, 3, 0, 2], [0, 2, 4, 1, 3]),
                         [5, 7, 9, 6, 8, 15, 17, 19, 16, 18, 0, 2, 4, 1, 3, 10, 12, 14, 11, 13])

    def test_of_one_row(self):
        self.assertEqual(product([0], [0]), [0])
        for outer in OUTER:
            self.assertEqual(product(outer, [0]), outer)
        for inner in INNER:
            self.assertEqual(product([0], inner), inner)

    def test_the_outer_one_needs_no_peace_on_the_joined_board(self):
        self.assertEqual(product([1, 3, 0, 2], [0]), [1, 3, 0, 2])

    def test_the_inner_one_does(self):
        self.assert_refused(NoPeace, product, [0], [1, 3, 0, 2])

    def test_not_at_peace(self):
        for taking in TAKING:
            for inner in INNER[:5]:
                self.assert_refused(NoPeace, product, taking, inner)
        for inner in UNJOINED:
            for outer in OUTER[:5] + TAKING:
                self.assert_refused(NoPeace, product, outer, inner)

    def test_exactly_two_hundred_rows(self):
        for outer, inner in ((stairs(40), stepped(5, 2)), (stairs(8), stepped(25, 2)), (stairs(200), [0])):
            made = product(outer, inner)
            self.assert_setting(made, 200)
            self.assertEqual(at_places(made), product_places(outer, inner))
            self.assertEqual(taking_pairs(made), set())
        # Not too great, but no setting of an even size is at peace on the joined board.
        self.assert_refused(NoPeace, product, stepped(5, 2), stairs(40))
        self.assert_refused(NoPeace, product, [0], stairs(200))

    def test_more_than_two_hundred_rows(self):
        for outer, inner in ((stepped(41, 2), stepped(5, 2)), (stepped(29, 2), stepped(7, 2)),
                             ([0], stepped(203, 2)), (stepped(203, 2), [0]), (stepped(199, 2), stepped(199, 2)),
                             (stepped(67, 2), [0, 0, 0]), ([0, 0, 0], stepped(67, 2))):
            self.assert_refused(BadSetting, product, outer, inner)

    def test_what_is_no_setting_is_refused_on_either_side(self):
        for at, wrong in enumerate(no_settings()):
            with self.subTest(at=at):
                # Beside one that is at peace, one that is not, one too great and another wrong one.
                for beside in ([0], [0, 2, 4, 1, 3], [0, 0], [1, 3, 0, 2], stepped(203, 2), None, [True]):
                    self.assert_refused(BadSetting, product, wrong, beside)
                    self.assert_refused(BadSetting, product, beside, wrong)

    def test_too_great_is_told_before_no_peace(self):
        for great in ([0] * 201, list(range(101)), [0] * 200):
            for taking in ([0, 0], [1, 0, 2]):
                self.assert_refused(BadSetting, product, great, taking)
                self.assert_refused(BadSetting, product, taking, great)
        self.assert_refused(NoPeace, product, [0, 0], [0] * 100)
        self.assert_refused(BadSetting, product, [0, 0], [0] * 101)

    def test_made_new(self):
        for setting in ([0], [0, 2, 4, 1, 3], stepped(13, 5)):
            self.assert_made_new(lambda outer: product(outer, [0]), setting)
            self.assert_made_new(lambda inner: product([0], inner), setting)
            self.assert_made_new(lambda both: product(both, both), setting)

    def test_a_setting_changed_in_place_is_made_anew(self):
        outer, inner = [1, 3, 0, 2], [0]
        self.assertEqual(product(outer, inner), [1, 3, 0, 2])
        outer.reverse()
        self.assertEqual(product(outer, inner), [2, 0, 3, 1])
        inner[:] = [0, 0]
        self.assert_refused(NoPeace, product, outer, inner)
        inner[:] = [0, 2, 4, 1, 3]
        self.assertEqual(at_places(product(outer, inner)), product_places(outer, inner))
        outer[0] = 3
        self.assert_refused(NoPeace, product, outer, inner)
        outer[0] = 4
        self.assert_refused(BadSetting, product, outer, inner)

    def test_what_is_refused_is_not_changed(self):
        outer, inner, taking = [0, [2]], [{0: 0}], [0, 0]
        self.assert_refused(BadSetting, product, outer, inner)
        self.assert_refused(NoPeace, product, taking, [0])
        self.assert_refused(NoPeace, product, [0], taking)
        self.assertEqual((outer, inner, taking), ([0, [2]], [{0: 0}], [0, 0]))


class InterfaceTest(unittest.TestCase):

    def test_arguments(self):
        for make in (mirrored, upended, exchanged):
            self.assertEqual(list(inspect.signature(make).parameters), ["setting"])
            self.assertEqual(make(setting=[0]), [0])
        self.assertEqual(list(inspect.signature(product).parameters), ["outer", "inner"])
        self.assertEqual(product(inner=[0], outer=[1, 3, 0, 2]), [1, 3, 0, 2])


if __name__ == "__main__":
    unittest.main()
