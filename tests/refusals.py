"""What the tests of refusals share."""

from queenrows.errors import QueenError


class Refusals:
    """Beside unittest.TestCase."""

    def assert_refused(self, kind, call, *handed):
        """The refusal is of this very class, not of one under it."""
        try:
            call(*handed)
        except QueenError as refusal:
            self.assertIs(type(refusal), kind)
        else:
            self.fail(f"{call.__name__} refused nothing")
