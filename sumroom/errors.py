"""The refusals of the program."""


class SumError(ValueError):
    """Any refusal."""


class BadLetters(SumError):
    """The number of letters is no whole number that a room can have."""


class BadSum(SumError):
    """What is handed in is no sum, or no list of sums, of the room."""


class TooMany(SumError):
    """A room cannot have so many nothings."""


class NoNothing(SumError):
    """The room has no nothing of that number."""


class BadSpot(SumError):
    """What is handed in is no spot of the room."""


class NoWay(SumError):
    """The nothing of number `at` goes to a sum that is not alike with nothing."""

    def __init__(self, at):
        super().__init__("a nothing goes to something else")
        self.at = at


class BadText(SumError):
    """The line of number `line` cannot stand there."""

    def __init__(self, line):
        super().__init__("a line cannot stand there")
        self.line = line
