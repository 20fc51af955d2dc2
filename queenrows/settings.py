"""What the other files share about sizes, places and settings."""

MOST_ROWS = 200


def is_number(value):
    """Tell whether this is a whole number; True and False are none."""
    return isinstance(value, int) and not isinstance(value, bool)


def is_size(value):
    """Tell whether this is the size of a board."""
    return is_number(value) and value >= 1


def is_place(size, value):
    """Tell whether this is a row, and so a column too, of a board of this size."""
    return is_number(value) and 0 <= value < size
