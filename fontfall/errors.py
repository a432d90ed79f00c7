"""The refusals of the program."""


class FaceError(ValueError):
    """Any refusal."""


class BadCase(FaceError):
    """Faces that are no case: how many there are, or the first bad one."""

    def __init__(self, word, number):
        super().__init__(f"no case: {word} {number}")
        self.word = word
        self.number = number


class BadSign(FaceError):
    """A text with a number that is no sign, first at this place."""

    def __init__(self, place):
        super().__init__(f"no sign at place {place}")
        self.place = place


class BadRow(FaceError):
    """A row that does not show its text, first at this cluster."""

    def __init__(self, place):
        super().__init__(f"no row: cluster {place}")
        self.place = place


class BadChange(FaceError):
    """A change that is none."""


class BadText(FaceError):
    """A written case that cannot be read, first at this row."""

    def __init__(self, row):
        super().__init__(f"row {row} cannot be read")
        self.row = row
