"""Settings judged, and steps told."""

from queenrows.answers import Barred, JoinedPeace, JoinedTake, Peace, Step, Take
from queenrows.errors import BadSetting, BadSize
from queenrows.settings import MOST_ROWS, barring, is_setting, is_size, taking_rows, taking_rows_joined


def told(setting):
    """Tell that the setting is at peace, or two rows whose queens take one another."""
    refuse_setting(setting)
    rows = taking_rows(setting)
    if rows is None:
        return Peace()
    one, other = rows
    return Take(one, other)


def told_joined(setting):
    """Tell the same on the joined board."""
    refuse_setting(setting)
    rows = taking_rows_joined(setting)
    if rows is None:
        return JoinedPeace()
    one, other = rows
    return JoinedTake(one, other)


def step(size):
    """Tell a step whose setting is at peace on the joined board, or what bars every setting from that."""
    if not is_size(size):
        raise BadSize("a size is a whole number from 1 on")
    by = barring(size)
    if by is not None:
        return Barred(by)
    # The step 2 and the numbers beside it, 1 and 3, have no divisor in common with any size left;
    # but on the board of one place it is too great.
    if size == 1:
        return Step(0)
    return Step(2)


def refuse_setting(setting):
    """Raise the refusal of what is no setting, or has too many rows to be judged."""
    if not is_setting(setting) or len(setting) > MOST_ROWS:
        raise BadSetting("a setting is a list of 1 to 200 columns, each a whole number less than its length")
