"""Settings made of others."""

from queenrows.errors import BadSetting, NoPeace
from queenrows.settings import MOST_ROWS, is_setting, taking_rows, taking_rows_joined


def mirrored(setting):
    """Tell the setting with its columns counted from the other side."""
    refuse_setting(setting)
    last = len(setting) - 1
    return [last - at for at in setting]


def upended(setting):
    """Tell the setting with its rows from the last one on."""
    refuse_setting(setting)
    return setting[::-1]


def exchanged(setting):
    """Tell the setting with its rows made columns and its columns rows."""
    refuse_setting(setting)
    refuse_taking(taking_rows(setting))
    columns = [0 for at in setting]
    for row, at in enumerate(setting):
        columns[at] = row
    return columns


def product(outer, inner):
    """Tell the setting in which the inner one stands where the outer one has a queen."""
    refuse_setting(outer)
    refuse_setting(inner)
    size = len(inner)
    if len(outer) * size > MOST_ROWS:
        raise BadSetting("the product would have more than 200 rows")
    refuse_taking(taking_rows(outer))
    refuse_taking(taking_rows_joined(inner))
    return [outer_at * size + inner_at for outer_at in outer for inner_at in inner]


def refuse_setting(setting):
    """Raise the refusal of what is no setting."""
    if not is_setting(setting):
        raise BadSetting("a setting is a list of columns, each a whole number less than its length")


def refuse_taking(rows):
    """Raise the refusal of a setting of which two rows were told that take one another."""
    if rows is not None:
        raise NoPeace("two queens of the setting take one another")
