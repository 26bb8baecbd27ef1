"""The refusals: one class for each kind, each straight under YardError."""


class YardError(ValueError):
    """Any refusal."""


class BadText(YardError):
    """What is no text of a yard; at is the number of a row, or None."""

    def __init__(self, at):
        super().__init__(f"no text of a yard, at {at}")
        self.at = at


class BadTrace(YardError):
    """What is no trace; at is the number of a row, or None."""

    def __init__(self, at):
        super().__init__(f"no trace, at {at}")
        self.at = at


class Lacking(YardError):
    """A name is asked that is not there."""

    def __init__(self, part, row, name):
        super().__init__(f"{name} is lacking: part {part}, row {row}")
        self.part = part
        self.row = row
        self.name = name


class Twice(YardError):
    """A name is told twice."""

    def __init__(self, part, row, name):
        super().__init__(f"{name} stands twice: part {part}, row {row}")
        self.part = part
        self.row = row
        self.name = name


class BadWidth(YardError):
    """Widths that are none, or that do not fit."""

    def __init__(self, part, row, name):
        super().__init__(f"bad width at {name}: part {part}, row {row}")
        self.part = part
        self.row = row
        self.name = name


class Unwired(YardError):
    """A name that has no term, or a use with another count of terms."""

    def __init__(self, part, row, name):
        super().__init__(f"{name} is not wired: part {part}, row {row}")
        self.part = part
        self.row = row
        self.name = name


class TooDeep(YardError):
    """A use that makes a part too deep within others."""

    def __init__(self, part, row, name):
        super().__init__(f"{name} is too deep: part {part}, row {row}")
        self.part = part
        self.row = row
        self.name = name


class Ring(YardError):
    """Names that ask one another in a ring."""

    def __init__(self, names):
        # Without a text of its own the error would keep the list that was handed in.
        super().__init__("names ask one another in a ring")
        self.names = list(names)


class TooMany(YardError):
    """More of something than there may be."""


class BadDoors(YardError):
    """Doors that are not just those in, or not with words of their widths."""


class BadNet(YardError):
    """What is no net."""


class BadLine(YardError):
    """What is no line for a desk."""
