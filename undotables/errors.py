"""The errors of the package. Each keeps what was wrong as its attribute."""


class UndoError(ValueError):
    """A value that was passed is not valid."""


class InvalidName(UndoError):
    """This is not a name."""

    def __init__(self, name):
        self.name = name


class InvalidNames(UndoError):
    """Not a tuple of names: the index of the first wrong one, or None."""

    def __init__(self, index):
        self.index = index


class InvalidAmount(UndoError):
    """This is not an amount."""

    def __init__(self, amount):
        self.amount = amount


class InvalidProgram(UndoError):
    """Not all of them are commands: the index of the first wrong one, or None."""

    def __init__(self, index):
        self.index = index


class InvalidText(UndoError):
    """This is not the text of a program."""

    def __init__(self, text):
        self.text = text


class InvalidLength(UndoError):
    """This is not a length."""

    def __init__(self, length):
        self.length = length


class InvalidCount(UndoError):
    """This is not a number of undone items."""

    def __init__(self, count):
        self.count = count


class InvalidChanges(UndoError):
    """Not the changes of an effect: the index of the first wrong one, or None."""

    def __init__(self, index):
        self.index = index


class InvalidObservations(UndoError):
    """Not all of them are observations: the index of the first wrong one."""

    def __init__(self, index):
        self.index = index


class InvalidLimit(UndoError):
    """This is not a limit of an editor."""

    def __init__(self, value):
        self.value = value


class InvalidLine(UndoError):
    """This is not a line for a console."""

    def __init__(self, text):
        self.text = text


class NotAHistory(UndoError):
    """A history was asked for."""

    def __init__(self, value):
        self.value = value


class NotAProgram(UndoError):
    """A program was asked for."""

    def __init__(self, value):
        self.value = value


class NotAnEffect(UndoError):
    """An effect was asked for."""

    def __init__(self, value):
        self.value = value


class StateError(LookupError):
    """An editor cannot do this at present."""


class CannotRevert(StateError):
    """The saved past is not a beginning of the present line."""


class Busy(StateError):
    """The editor is at work."""


class LimitError(ArithmeticError):
    """A limit would be exceeded."""


class TooManyDiscarded(LimitError):
    """A do command would discard this many items."""

    def __init__(self, count):
        self.count = count
