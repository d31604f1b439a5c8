"""The errors that the other modules raise: three families, and the kinds straight under them."""


class Refused(ValueError):
    """What was handed in is not taken."""


class Missing(LookupError):
    """What was asked for is not there."""


class Halted(RuntimeError):
    """What was asked for is not done now, as things stand."""


class NoHouse(Refused):
    """There is no house of so many signs."""


class NoName(Refused):
    """It is no NAME."""


class NoDoubter(Refused):
    """It is no doubter."""


class NoWeight(Refused):
    """It is no weight."""


class NoSign(Refused):
    """It is no sign."""


class NoText(Refused):
    """Nothing is written so."""


class NoLine(Refused):
    """It is no line that the desk knows."""


class Nothing(Refused):
    """There is nothing to take back."""


# The values stay out of the messages below: a number may be too long for Python to write.


class Crowded(Refused):
    """The house would hold too many; what says of which."""

    def __init__(self, what):
        super().__init__("the house would hold too many")
        self.what = what


class NoPlace(Missing):
    """Nothing of the kind stands at the path."""

    def __init__(self, path):
        super().__init__("nothing of the kind stands at the path")
        self.path = path


class NotTold(Halted):
    """No shares are told today."""


class Told(Halted):
    """Shares are told today already."""


class NotRight(Halted):
    """The shares of the day of that number are not right."""

    def __init__(self, number):
        super().__init__("the shares are not right")
        self.number = number
