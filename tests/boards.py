"""Taking as the document words it, two queens at a time, and settings to hold the program against."""

import itertools
import math
import random


def take(one_row, one_column, other_row, other_column):
    apart = abs(one_row - other_row)
    return one_column == other_column or abs(one_column - other_column) == apart


def take_joined(size, one_row, one_column, other_row, other_column):
    return (one_column == other_column
            or (one_column - one_row) % size == (other_column - other_row) % size
            or (one_column + one_row) % size == (other_column + other_row) % size)


def taking_pairs(setting):
    """All pairs of rows, the lesser one first, whose queens take one another."""
    return {(one, other) for one, other in itertools.combinations(range(len(setting)), 2)
            if take(one, setting[one], other, setting[other])}


def joined_taking_pairs(setting):
    size = len(setting)
    return {(one, other) for one, other in itertools.combinations(range(size), 2)
            if take_joined(size, one, setting[one], other, setting[other])}


def stepped(size, step):
    return [step * row % size for row in range(size)]


def every_setting(most):
    """Every setting of up to so many rows."""
    for size in range(1, most + 1):
        for columns in itertools.product(range(size), repeat=size):
            yield list(columns)


def moved(setting, draw):
    """The setting with one queen moved to another column."""
    size = len(setting)
    row = draw.randrange(size)
    changed = list(setting)
    changed[row] = (changed[row] + draw.randrange(1, size)) % size
    return changed


def swapped(setting, draw):
    """The setting with the columns of two rows exchanged, so that no two queens come into one column."""
    one, other = draw.sample(range(len(setting)), 2)
    changed = list(setting)
    changed[one], changed[other] = changed[other], changed[one]
    return changed


def stairs(size):
    """A setting at peace of an even size from 4 on."""
    if size % 6 == 2:
        return [*range(1, size, 2), 2, 0, *range(6, size, 2), 4]
    return [*range(1, size, 2), *range(0, size, 2)]


def peaceful_settings(sizes):
    """Settings at peace, some of them on the joined board too, made here and not by the program."""
    for size in sizes:
        if size % 2 == 0:
            yield stairs(size)
            yield stairs(size)[::-1]
        for step in {2, 3, size // 2, size - 2}:
            if math.gcd(size, (step - 1) * step * (step + 1)) == 1:
                yield stepped(size, step)
                # Shifted on the joined board: at peace there still, so on the board too.
                yield [(at + size // 3) % size for at in stepped(size, step)]


def drawn_settings():
    """Settings of up to 40, of 199 and of 200 rows, at peace and not, and nearly so."""
    draw = random.Random(8)
    for size in [*range(1, 41), 199, 200] + [draw.randrange(1, 201) for turn in range(20)]:
        yield [draw.randrange(size) for row in range(size)]
        yield draw.sample(range(size), size)
        yield [draw.randrange(size)] * size
    for setting in peaceful_settings([*range(4, 41), 197, 198, 199, 200]):
        yield setting
        for turn in range(3):
            yield moved(setting, draw)
            yield swapped(setting, draw)
