"""The errors of the program: what is refused, and what is missing."""


class Refused(ValueError):
    """What was handed in can't be done."""


class Missing(LookupError):
    """What was asked for isn't there."""


class OneHouse(Refused):
    """The two numbers are of one house already; house is what it is called."""

    def __init__(self, house):
        super().__init__("these are one house already")
        self.house = house


class NoLetter(Refused):
    """This is no letter there."""

    def __init__(self, letter):
        super().__init__("this is no letter there")
        self.letter = letter


class NoText(Refused):
    """The row with this number, from 0, isn't as it must be."""

    def __init__(self, row):
        super().__init__("this row isn't as it must be")
        self.row = row


class NoLine(Refused):
    """This is no line that the desk knows."""

    def __init__(self, line):
        super().__init__("this is no line of a desk")
        self.line = line


class Taken(Refused):
    """There is a talk of this name already."""

    def __init__(self, talk):
        super().__init__("there is a talk of this name already")
        self.talk = talk


class Unlike(Refused):
    """The two machines have unlike words, or aren't alike."""


class NotLeast(Refused):
    """The machine isn't a least one."""


class Nothing(Missing):
    """There is nothing to take back."""


class NoTalk(Missing):
    """There is no talk of this name."""

    def __init__(self, talk):
        super().__init__("there is no talk of this name")
        self.talk = talk


class NoName(Missing):
    """Nothing is kept by this name."""

    def __init__(self, name):
        super().__init__("nothing is kept by this name")
        self.name = name


class NoStand(Missing):
    """There is no stand with this number."""

    def __init__(self, number):
        super().__init__("there is no stand with this number")
        self.number = number
