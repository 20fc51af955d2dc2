"""For each size but 2 and 3 one setting at peace, told row by row without the rest of it.

Nothing here loops over rows but setting(), so that a size may have any many figures.
The messages name no number: Python writes out none of more than a few thousand figures.
"""

from queenrows.errors import BadPlace, BadSize, NoSetting
from queenrows.settings import MOST_ROWS, is_place, is_size


def column(size, row):
    """Tell the column of the queen in this row."""
    refuse_size(size)
    refuse_place(size, row)
    return column_at(size, row)


def row_of(size, column):
    """Tell the row of the queen in this column."""
    refuse_size(size)
    refuse_place(size, column)
    return row_at(size, column)


def setting(size):
    """Tell the whole setting of a size up to 200."""
    refuse_size(size)
    if size > MOST_ROWS:
        raise BadSize("a size above 200 has no setting told as a list")
    return [column_at(size, row) for row in range(size)]


def refuse_size(size):
    """Raise the refusal of a size of which no setting is told."""
    if not is_size(size):
        raise BadSize("a size is a whole number from 1 on")
    if size == 2 or size == 3:
        raise NoSetting("no setting of size 2 or 3 is at peace")


def refuse_place(size, place):
    """Raise the refusal of what is no row or column of a board of this size."""
    if not is_place(size, place):
        raise BadPlace("a row or a column is a whole number from 0 on, less than the size")


def column_at(size, row):
    """Tell the column of a row, both known to be good."""
    if size % 2 == 0:
        return even_column(size, row)
    # No queen of the even settings has its row's number as its column,
    # so one more queen fits in at the corner behind the last row and column.
    if row == size - 1:
        return size - 1
    return even_column(size - 1, row)


def row_at(size, at):
    """Tell the row of a column, both known to be good: column_at the other way."""
    if size % 2 == 0:
        return even_row(size, at)
    if at == size - 1:
        return size - 1
    return even_row(size - 1, at)


def even_column(size, row):
    """Tell the column of a row of an even size."""
    # The plain stairs' two halves take one another just where the size leaves 2 by 6.
    if size % 6 == 2:
        return turned_column(size, row)
    return stairs_column(size, row)


def even_row(size, at):
    """Tell the row of a column of an even size: even_column the other way."""
    if size % 6 == 2:
        return turned_row(size, at)
    return stairs_row(size, at)


def stairs_column(size, row):
    """Tell the column where the upper half takes the odd columns in turn, the lower half the even ones."""
    half = size // 2
    if row < half:
        return 2 * row + 1
    return 2 * (row - half)


def stairs_row(size, at):
    """Tell the row of a column: stairs_column the other way."""
    if at % 2 == 1:
        return at // 2
    return size // 2 + at // 2


def turned_column(size, row):
    """Tell the column where the lower half is the upper half turned about the middle of the board."""
    last = size - 1
    if row < size // 2:
        return shifted_column(size, row)
    return last - shifted_column(size, last - row)


def turned_row(size, at):
    """Tell the row of a column: turned_column the other way."""
    last = size - 1
    start = size // 2 - 1
    # The upper half's columns are all even or all odd, as the first of them; turned they are the others.
    if (at - start) % 2 == 0:
        return shifted_row(size, at)
    return last - shifted_row(size, last - at)


def shifted_column(size, row):
    """Tell the column of a row of the upper half: two on with each row, round the edge, from near the middle."""
    return (size // 2 - 1 + 2 * row) % size


def shifted_row(size, at):
    """Tell the row of a column that the upper half has: shifted_column the other way."""
    return (at - (size // 2 - 1)) % size // 2
