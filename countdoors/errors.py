"""The errors that the functions of the package raise."""


class DoorError(ValueError):
    """The base class of all errors of the package."""


class BadNest(DoorError):
    """A value is not a nest: index is that of the first bad item, None for the value itself."""

    def __init__(self, index):
        self.index = index


class BadDoor(DoorError):
    """A value is not a door that may stand there."""


class BadNumbers(DoorError):
    """A value is not numbers: index is that of the first bad item, None for the value itself."""

    def __init__(self, index):
        self.index = index


class BadOrder(DoorError):
    """A value is not a tuple of all doors, or of all places, each once."""


class BadRanks(DoorError):
    """A value is not the ranks of a nest, or not the rank of a door."""


class BadIndex(DoorError):
    """There is no order with this index, or a number is not from 0 to 8."""


class BadState(DoorError):
    """A value is not an ascending tuple of doors."""


class TooMany(DoorError):
    """There are more than the most that the function takes."""

    def __init__(self, most):
        self.most = most


class NotText(DoorError):
    """A value is not a string."""


class InvalidText(DoorError):
    """A text names no nest: place is the index of the first character that cannot stand."""

    def __init__(self, place):
        self.place = place


class BadTold(DoorError):
    """A value is not an ascending tuple of 1 to 12 unlike orders."""


class BadCount(DoorError):
    """A value is not an integer within the limits of a count."""


class BadFlag(DoorError):
    """A value is neither True nor False."""


class BadRow(DoorError):
    """A value is not a row of heights."""


class BadSides(DoorError):
    """A value is not numbers of one side: index as for BadNumbers."""

    def __init__(self, index):
        self.index = index


class BadPrices(DoorError):
    """A value is not the prices that are asked for."""


class NothingToUndo(DoorError):
    """There is no step to take back."""


class NothingToRedo(DoorError):
    """There is no step to do again."""


class InvalidLine(DoorError):
    """A line is no step and no question: word is the number of the first wrong word, from 1."""

    def __init__(self, word):
        self.word = word


class BadWords(DoorError):
    """A value is not the words of a nest."""


class BadPair(DoorError):
    """A value is not a pair of a nest and numbers for it."""


class BadGoals(DoorError):
    """A value is not the goals for a nest."""


class BadWeights(DoorError):
    """A value is not the weights for a nest."""
