"""The errors of the package: three families below StackError."""


class StackError(ValueError):
    """Every error of the package."""


class PaperError(StackError):
    """A value is not what a checker accepts."""


class PlanError(StackError):
    """A plan, a book or a clause cannot be changed or asked like this."""


class TextError(StackError):
    """A string cannot be read."""


class InvalidPaper(PaperError):
    def __init__(self, word, at):
        self.word = word
        self.at = at


class InvalidStep(PlanError):
    def __init__(self, step, reason):
        self.step = step
        self.reason = reason


class UnknownName(PlanError):
    def __init__(self, name):
        self.name = name


class NothingToUndo(PlanError):
    def __init__(self, steps):
        self.steps = steps


class InvalidAmount(PlanError):
    def __init__(self, value):
        self.value = value


class InvalidText(TextError):
    def __init__(self, line, field):
        self.line = line
        self.field = field


class InvalidCommand(TextError):
    def __init__(self, text):
        self.text = text
