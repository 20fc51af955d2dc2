"""Values of the wrong kinds, for the tests of refusals."""

from decimal import Decimal
from fractions import Fraction


class Hostile:
    """An object of which nothing can be asked without an error."""

    def refuse(self, *rest):
        raise RuntimeError("asked of what should only be refused")

    __eq__ = __ne__ = __lt__ = __le__ = __gt__ = __ge__ = refuse
    __add__ = __radd__ = __sub__ = __rsub__ = __mod__ = __floordiv__ = refuse
    __bool__ = __len__ = __iter__ = __getitem__ = __contains__ = refuse
    __int__ = __index__ = __str__ = __repr__ = __format__ = __hash__ = refuse


class LikeFour:
    """An object that gives itself out for 4 but is no whole number."""

    def __index__(self):
        return 4

    def __int__(self):
        return 4

    def __eq__(self, other):
        return other == 4

    def __lt__(self, other):
        return 4 < other

    def __le__(self, other):
        return 4 <= other

    def __gt__(self, other):
        return 4 > other

    def __ge__(self, other):
        return 4 >= other


def endless_list():
    rows = []
    rows.append(rows)
    return rows


def no_numbers():
    """New ones each time, so that no test can spoil them for another."""
    return [
        True, False, None, "", "4", "four", b"", b"4", bytearray(b"4"),
        [], [4], [0, 1], endless_list(), (), (4,), {}, {4: 4}, set(), {4}, frozenset([4]),
        0.0, 1.0, 4.0, 4.5, float("nan"), float("inf"), complex(4), Fraction(4), Fraction(9, 2), Decimal(4),
        range(4), iter([4]), object(), int, len, NotImplemented, ..., ValueError("4"),
        lambda: 4, Hostile(), LikeFour(),
    ]
