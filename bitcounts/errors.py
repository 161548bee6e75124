"""The errors of the program: three bases, and a class for each kind of failure."""


class InputError(ValueError):
    """Base of the errors of values that are not right by themselves."""


class StateError(LookupError):
    """Base of the errors of values that do not fit the state of a desk."""


class LimitError(ArithmeticError):
    """Base of the errors of results that would be too large."""


class InvalidName(InputError):
    def __init__(self, name):
        self.name = name


class InvalidNumber(InputError):
    def __init__(self, number):
        self.number = number


class InvalidValues(InputError):
    def __init__(self, index):
        self.index = index


class InvalidDeeds(InputError):
    def __init__(self, index):
        self.index = index


class InvalidText(InputError):
    def __init__(self, text):
        self.text = text


class InvalidCommand(InputError):
    def __init__(self, command):
        self.command = command


class NotAWord(InputError):
    def __init__(self, value):
        self.value = value


class NotAFormula(InputError):
    def __init__(self, value):
        self.value = value


class NotATest(InputError):
    def __init__(self, value):
        self.value = value


class NotAVariable(InputError):
    def __init__(self, value):
        self.value = value


class WrongNames(InputError):
    def __init__(self, name):
        self.name = name


class UnknownName(StateError):
    def __init__(self, name):
        self.name = name


class Refused(StateError):
    def __init__(self, index):
        self.index = index


class Parted(StateError):
    def __init__(self, pairs):
        self.pairs = pairs


class Busy(StateError):
    """A deed was asked for while do_all works."""


class NothingToUndo(StateError):
    """There are fewer deeds than are to be taken back."""


class TooMany(LimitError):
    """A rank, or several ranks together, would be too large."""


class TooManyNames(LimitError):
    """Things have more than three names together."""


class TooManyClasses(LimitError):
    """A test would have too many classes."""
