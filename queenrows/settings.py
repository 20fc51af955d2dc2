"""What the other files share about sizes, places and settings.

Only what is handed a setting loops over rows, so that a size may have any many figures.
"""

MOST_ROWS = 200


def is_number(value):
    """Tell whether this is a whole number; True and False are none."""
    return isinstance(value, int) and not isinstance(value, bool)


def is_size(value):
    """Tell whether this is the size of a board."""
    return is_number(value) and value >= 1


def is_place(size, value):
    """Tell whether this is a row, and so a column too, of a board of this size."""
    return is_number(value) and 0 <= value < size


def is_setting(value):
    """Tell whether this is a setting, of any many rows, at peace or not."""
    if not isinstance(value, list):
        return False
    size = len(value)
    return size >= 1 and all([is_place(size, at) for at in value])


def rows_take(setting, one, other):
    """Tell whether the queens of these two rows take one another."""
    across = abs(setting[one] - setting[other])
    return across == 0 or across == abs(one - other)


def rows_take_joined(setting, one, other):
    """Tell whether the queens of these two rows take one another on the joined board."""
    size = len(setting)
    across = setting[one] - setting[other]
    down = one - other
    return across == 0 or (across - down) % size == 0 or (across + down) % size == 0


def taking_rows(setting):
    """Tell two rows, the lesser one first, whose queens take one another, or None at peace."""
    # As many columns as rows apart: the columns less the rows are the same, or both together are.
    return rows_on_one_line([
        (("column", at), ("less", at - row), ("together", at + row))
        for row, at in enumerate(setting)
    ])


def taking_rows_joined(setting):
    """Tell two rows, the lesser one first, whose queens take one another on the joined board, or None at peace."""
    size = len(setting)
    return rows_on_one_line([
        (("column", at), ("less", (at - row) % size), ("together", (at + row) % size))
        for row, at in enumerate(setting)
    ])


def rows_on_one_line(lines_of_rows):
    """Tell two rows, the lesser one first, that have a line in common, or None."""
    seen = {}
    for row, lines in enumerate(lines_of_rows):
        for line in lines:
            if line in seen:
                return seen[line], row
            seen[line] = row
    return None


def barring(size):
    """Tell 2 or 3, whichever goes into the size, or None."""
    for by in (2, 3):
        if size % by == 0:
            return by
    return None


def is_good_step(size, step):
    """Tell whether this step of the size makes a setting that is at peace on the joined board."""
    # No step is good where 2 or 3 goes into the size: told here before much is reckoned.
    if not is_place(size, step) or barring(size) is not None:
        return False
    # Two rows take one another where their distance times the step, or times one less or one more than it,
    # leaves 0 by the size: no distance below the size does if these three have no divisor in common with it.
    return greatest_divisor(size, (step - 1) * step * (step + 1)) == 1


def greatest_divisor(one, other):
    """Tell the greatest number that goes into both."""
    while other != 0:
        one, other = other, one % other
    return one
