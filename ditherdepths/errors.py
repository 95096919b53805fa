"""The errors of the package."""


class DitherError(ValueError):
    """What all errors of the package are."""


class InvalidLevels(DitherError):
    """No list of levels, or the number of the first item that is no level."""

    def __init__(self, level):
        super().__init__(f"wrong levels: {level}")
        self.level = level


class InvalidPlates(DitherError):
    """No list of plates, or the number of the first item that is no plate."""

    def __init__(self, item):
        super().__init__(f"wrong plates: {item}")
        self.item = item


class InvalidConditions(DitherError):
    """No list of conditions, or the number of the first item that is none."""

    def __init__(self, item):
        super().__init__(f"wrong conditions: {item}")
        self.item = item


class InvalidSeen(DitherError):
    """No list of what was seen or counted, or the number of the first wrong item."""

    def __init__(self, item):
        super().__init__(f"wrong list of what was seen or counted: {item}")
        self.item = item


class InvalidText(DitherError):
    """No text of a screen, or the number of the first part that is no level."""

    def __init__(self, part):
        super().__init__(f"wrong text: {part}")
        self.part = part


class TooDeep(DitherError):
    """More levels than a screen may have."""

    def __init__(self, most):
        super().__init__(f"more levels than {most}")
        self.most = most


class OverInk(DitherError):
    """More dots than the limit of ink."""

    def __init__(self, count):
        super().__init__(f"above the limit of ink: {count}")
        self.count = count


class InvalidScreen(DitherError):
    """What should be a screen is none."""


class InvalidShade(DitherError):
    """What should be a shade of a screen is none."""


class InvalidWindow(DitherError):
    """What should be a window is none."""


class InvalidPlace(DitherError):
    """A coordinate of a place is none, or beyond the bounds."""


class InvalidSide(DitherError):
    """What should be the side of a square is none."""


class InvalidKind(DitherError):
    """Neither dots nor blanks were asked for."""


class InvalidNumber(DitherError):
    """What should be a number is none, or beyond its range."""


class InvalidRows(DitherError):
    """There are no such rows."""


class InvalidLimit(DitherError):
    """What should be a limit of ink is none."""


class InvalidOperation(DitherError):
    """What should be a step of a preview is none."""


class Nothing(DitherError):
    """There is nothing to take back."""


class InvalidCommand(DitherError):
    """What should be a command is none."""
