"""What is told of a setting or of a size: each answer can be held against it again."""

from queenrows.settings import is_good_step, is_number, is_place
from queenrows.settings import rows_take, rows_take_joined, taking_rows, taking_rows_joined


class Answer:
    """What every answer is."""


class Peace(Answer):
    """The setting is at peace."""

    def shows(self, setting):
        """Tell whether this is so of the setting."""
        return taking_rows(setting) is None


class JoinedPeace(Answer):
    """The setting is at peace on the joined board."""

    def shows(self, setting):
        """Tell whether this is so of the setting."""
        return taking_rows_joined(setting) is None


class Take(Answer):
    """The queens of two rows, the lesser one first, take one another."""

    def __init__(self, one, other):
        self.one = one
        self.other = other

    def shows(self, setting):
        """Tell whether this is so of the setting."""
        return are_two_rows(len(setting), self.one, self.other) and rows_take(setting, self.one, self.other)


class JoinedTake(Answer):
    """The queens of two rows, the lesser one first, take one another on the joined board."""

    def __init__(self, one, other):
        self.one = one
        self.other = other

    def shows(self, setting):
        """Tell whether this is so of the setting."""
        return are_two_rows(len(setting), self.one, self.other) and rows_take_joined(setting, self.one, self.other)


class Step(Answer):
    """This step makes a setting of the size that is at peace on the joined board."""

    def __init__(self, step):
        self.step = step

    def shows(self, size):
        """Tell whether this is so of the size."""
        return is_good_step(size, self.step)


class Barred(Answer):
    """This number, 2 or 3, goes into the size."""

    def __init__(self, by):
        self.by = by

    def shows(self, size):
        """Tell whether this is so of the size."""
        return is_number(self.by) and self.by in (2, 3) and size % self.by == 0


def are_two_rows(size, one, other):
    """Tell whether these are two rows of a board of this size, the lesser one first."""
    return is_place(size, one) and is_place(size, other) and one < other
