"""The errors of the package, each directly under CarriedError."""


class CarriedError(ValueError):
    """What every error of this package is."""


class InvalidKind(CarriedError):
    """A value that is no kind where one is asked for."""


class InvalidCount(CarriedError):
    """A value that is no number of the wanted range."""


class InvalidPart(CarriedError):
    """A value that is not of the form that is asked for."""


class Refused(CarriedError):
    """A command that makes no sense as things stand."""


class InvalidText(CarriedError):
    """A text that goes wrong at an index."""

    def __init__(self, index):
        self.index = index


class InvalidOctets(CarriedError):
    """Octets that go wrong at an index."""

    def __init__(self, index):
        self.index = index


class InvalidPaper(CarriedError):
    """A paper that is wrong at the line with an index."""

    def __init__(self, index):
        self.index = index


class IllKinded(CarriedError):
    """A program that a looker refuses at a place."""

    def __init__(self, place):
        self.place = place


class Stuck(CarriedError):
    """A term that can not give way, at a place."""

    def __init__(self, place):
        self.place = place


class Unfit(CarriedError):
    """A kind that is too great, at a place."""

    def __init__(self, place):
        self.place = place


class Clash(CarriedError):
    """Two places whose kinds can not be the same."""

    def __init__(self, places):
        self.places = places


class Unknown(CarriedError):
    """A word that nothing tells."""

    def __init__(self, word):
        self.word = word


class NotMet(CarriedError):
    """A word that is asked for and that nothing gives."""

    def __init__(self, word):
        self.word = word


class Twice(CarriedError):
    """A word that stands a second time."""

    def __init__(self, word):
        self.word = word


class TooMany(CarriedError):
    """More of something than there may be."""

    def __init__(self, count):
        self.count = count


class InvalidCommand(CarriedError):
    """A command that goes wrong at an index."""

    def __init__(self, index):
        self.index = index
