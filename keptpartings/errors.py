"""The exceptions that the package raises."""

# The texts do not show the fields: a field may be any value, and showing it may fail or be endless.


class PartError(ValueError):
    """An argument is refused."""


class BadMachine(PartError):
    """What is no machine; place tells where the fault is."""

    def __init__(self, place):
        super().__init__("this is no machine")
        self.place = place


class BadWord(PartError):
    """What is no word of the machine; place tells where the fault is."""

    def __init__(self, place):
        super().__init__("this is no word of the machine")
        self.place = place


class BadParting(PartError):
    """A value that is no parting of the machine, or none that serves."""

    def __init__(self, value):
        super().__init__("this is no parting that serves here")
        self.value = value


class BadStanding(PartError):
    """A value that is no number of a standing, or of none that serves."""

    def __init__(self, value):
        super().__init__("this is no standing that serves here")
        self.value = value


class BadRow(PartError):
    """A value that is no row of the machine, or no sides of it."""

    def __init__(self, value):
        super().__init__("this is no row and no sides of the machine")
        self.value = value


class BadCode(PartError):
    """A value that is no code of the machine."""

    def __init__(self, value):
        super().__init__("this is no code of the machine")
        self.value = value


class BadNumber(PartError):
    """A value that is not of the numbers, or lots of them, that serve."""

    def __init__(self, value):
        super().__init__("these are no numbers that serve here")
        self.value = value


class BadPaper(PartError):
    """A paper that does not show what it should; word names the part at fault."""

    def __init__(self, word):
        super().__init__("this paper does not hold")
        self.word = word


class BadText(PartError):
    """A text that cannot be read; line and word tell where the fault is."""

    def __init__(self, line, word):
        super().__init__("this text cannot be read")
        self.line = line
        self.word = word


class NothingLeft(PartError):
    """No deed is left to be taken back."""

    def __init__(self):
        super().__init__("nothing is left to be taken back")


class TooGreat(OverflowError):
    """There is more of something than is allowed; most tells how much is."""

    def __init__(self, most):
        super().__init__("this is too great")
        self.most = most


class Alone(LookupError):
    """What is asked of a machine with one standing."""

    def __init__(self):
        super().__init__("the machine has one standing alone")
