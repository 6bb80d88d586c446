"""The errors of the package, one class for each kind of failure."""


class ShopError(ValueError):
    """The base class of all errors of the package."""


class BadFold(ShopError):
    """A fold cannot be done, or a row of folds does not end with one place."""


class TooMany(ShopError):
    """There are more pages than a sheet has sides of panels."""


class Crossed(ShopError):
    """Two creases of a strip cross."""

    def __init__(self, first, second):
        super().__init__(f"the creases {first} and {second} cross")
        self.first = first
        self.second = second


class TooThick(ShopError):
    """The innermost of the nested sheets is pushed out too far."""


class NoPage(ShopError):
    """The sections have no such page."""


class OddSheet(ShopError):
    """A sheet has no middle line to be cut at."""


class BadStep(ShopError):
    """A step of a job book cannot be done."""

    def __init__(self, step):
        super().__init__(f"step {step} cannot be done")
        self.step = step


class NoBook(ShopError):
    """A job book ends without a stack `book` of one place."""


class NoStep(ShopError):
    """A job book has no such step."""


class NoFace(ShopError):
    """A book has no such face."""


class BadTree(ShopError):
    """A tree of cuts does not fit its board."""


class NoCounts(ShopError):
    """No counts fit the bounds."""


class NoWeights(ShopError):
    """There is nobody to divide among."""


class NoThing(ShopError):
    """No thing of this name was made."""


class BadLine(ShopError):
    """A line of a text is not what it must be."""

    def __init__(self, line):
        super().__init__(f"line {line} has not the form that it must have")
        self.line = line


class BadText(ShopError):
    """A text is not what it must be."""


class BadStock(ShopError):
    """A stock is not what it must be."""


class BadWord(ShopError):
    """A value is not a word."""


class BadJob(ShopError):
    """A value is not a job book."""


class BadPlate(ShopError):
    """A value is not a plate of any size."""


class BadFlow(ShopError):
    """A value is not a flow."""


class Full(ShopError):
    """There is no room for one more."""


class Unknown(ShopError):
    """There is nothing of this name."""


class InUse(ShopError):
    """What an open order needs cannot be dropped."""


class Taken(ShopError):
    """A word is already that of an order."""


class Short(ShopError):
    """The stock has too few sheets."""


class BadCourse(ShopError):
    """A course cannot be for its flow."""


class NothingToUndo(ShopError):
    """There is no deed to take back."""


class BadHandling(ShopError):
    """A handling cannot be done."""
