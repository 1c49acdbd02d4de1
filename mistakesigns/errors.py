"""The refusals of the program."""


class MistakeError(ValueError):
    """Any refusal."""


class NoText(MistakeError):
    """A text is no table's."""


class NoSign(MistakeError):
    """It is not told which word was sent."""
