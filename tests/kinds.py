"""Values of the wrong kinds, for the tests of refusals."""

from array import array
from collections import UserList, deque
from decimal import Decimal
from fractions import Fraction


class Hostile:
    """An object of which nothing can be asked without an error."""

    def refuse(self, *rest):
        raise RuntimeError("asked of what should only be refused")

    __eq__ = __ne__ = __lt__ = __le__ = __gt__ = __ge__ = refuse
    __add__ = __radd__ = __sub__ = __rsub__ = __mod__ = __floordiv__ = refuse
    __bool__ = __len__ = __iter__ = __getitem__ = __contains__ = refuse
    __int__ = __index__ = __str__ = __repr__ = __format__ = __hash__ = refuse


class LikeFour:
    """An object that gives itself out for 4 but is no whole number."""

    def __index__(self):
        return 4

    def __int__(self):
        return 4

    def __eq__(self, other):
        return other == 4

    def __lt__(self, other):
        return 4 < other

    def __le__(self, other):
        return 4 <= other

    def __gt__(self, other):
        return 4 > other

    def __ge__(self, other):
        return 4 >= other


def endless_list():
    rows = []
    rows.append(rows)
    return rows


def no_numbers():
    """New ones each time, so that no test can spoil them for another."""
    return [
        True, False, None, "", "4", "four", b"", b"4", bytearray(b"4"),
        [], [4], [0, 1], endless_list(), (), (4,), {}, {4: 4}, set(), {4}, frozenset([4]),
        0.0, 1.0, 4.0, 4.5, float("nan"), float("inf"), complex(4), Fraction(4), Fraction(9, 2), Decimal(4),
        range(4), iter([4]), object(), int, len, NotImplemented, ..., ValueError("4"),
        lambda: 4, Hostile(), LikeFour(),
    ]


class LikeSetting:
    """An object that gives itself out for [1, 3, 0, 2] but is no list."""

    def __len__(self):
        return 4

    def __iter__(self):
        return iter([1, 3, 0, 2])

    def __getitem__(self, at):
        return [1, 3, 0, 2][at]


def no_columns(size):
    """What can't be a column of a board of this size."""
    return [-1, -size, -10**50, size, size + 1, 10**50, 10**5000] + no_numbers()


def no_lists():
    """What can't be a setting, since it isn't even a list."""
    numbers = [0, 1, 4, -1, 10**50, 10**5000]
    likes = [
        (0,), (1, 3, 0, 2), {0: 0}, {0: 1, 1: 3, 2: 0, 3: 2}, {0}, "0", "1302", b"\x00", b"\x01\x03\x00\x02",
        bytearray([1, 3, 0, 2]), range(1), range(4), iter([0]), deque([1, 3, 0, 2]), array("i", [1, 3, 0, 2]),
        UserList([1, 3, 0, 2]), dict.fromkeys([0]).keys(), (at for at in [0]), list, LikeSetting(),
    ]
    return numbers + likes + [value for value in no_numbers() if not isinstance(value, list)]


def no_settings():
    """What can't be a setting: no lists, the empty one, and lists with a wrong column at each place that matters."""
    lists = [[], [[]], [[0]], [1], [-1], [1, 2], [0, 1, 2, 4], [4, 3, 2, 1], [0] * 199 + [200], endless_list()]
    for good in ([0], [1, 3, 0, 2], [0, 2, 4, 1, 3], [0, 0, 0, 0, 0]):
        size = len(good)
        for place in {0, size // 2, size - 1}:
            for wrong in no_columns(size):
                lists.append(good[:place] + [wrong] + good[place + 1:])
    return no_lists() + lists
