"""How the tests look at refusals."""


class Refusing:
    """Mixed into test cases."""

    def assert_refused(self, error, function, *handed):
        """The call raises an error of this very class."""
        try:
            told = function(*handed)
        except Exception as caught:
            self.assertIs(type(caught), error, f"{function.__name__}{handed!r:.200}")
            return
        self.fail(f"{function.__name__}{handed!r:.200} is not refused, but told {told!r:.200}")
