"""The refusals. Each bears its class's name as `word`, and the fields that are told for it."""


class InkError(ValueError):
    """What was handed in is refused."""

    def __init__(self, told=""):
        ValueError.__init__(self, told)
        self.word = self.__class__.__name__


class BadWriter(InkError):
    """The thing at that place of the row is no writer."""

    def __init__(self, at):
        InkError.__init__(self, f"no writer at {at}")
        self.at = at


class BadStep(InkError):
    """The step at that place is no sign, and no company's writers."""

    def __init__(self, at):
        InkError.__init__(self, f"no step at {at}")
        self.at = at


class BadSaid(InkError):
    """The confession at that place is of no sign of the scroll, or of no name."""

    def __init__(self, at):
        InkError.__init__(self, f"no confession at {at}")
        self.at = at


class BadSign(InkError):
    """A text is no sign."""


class BadName(InkError):
    """A text is no name."""


class BadNumber(InkError):
    """There is nothing of that number."""


class BadDeed(InkError):
    """A tuple is no deed."""


class BadText(InkError):
    """The row of that number, of a text, is not written as it must be."""

    def __init__(self, at):
        InkError.__init__(self, f"row {at} can't be read")
        self.at = at


class Taken(InkError):
    """The name stands already."""

    def __init__(self, name):
        InkError.__init__(self, f"{name} stands already")
        self.name = name


class Full(InkError):
    """As many as may be are there."""


class TooMany(InkError):
    """There are more than the bound that is told."""

    def __init__(self, most):
        InkError.__init__(self, f"more than {most}")
        self.most = most


class Still(InkError):
    """The company can be still, as it is at that strip."""

    def __init__(self, strip):
        InkError.__init__(self, f"still behind {len(strip)} signs")
        self.strip = strip


class Unwritten(InkError):
    """No telling is left at the sign of that number."""

    def __init__(self, at):
        InkError.__init__(self, f"no telling of sign {at} is left")
        self.at = at


class Clash(InkError):
    """No telling would keep the confessions."""


class Broken(InkError):
    """The deed at that place of a batch is refused."""

    def __init__(self, at):
        InkError.__init__(self, f"deed {at} is refused")
        self.at = at


class Missing(LookupError):
    """What is asked for isn't there."""

    def __init__(self, told=""):
        LookupError.__init__(self, told)
        self.word = self.__class__.__name__


class NoName(Missing):
    """No writer bears the name."""

    def __init__(self, name):
        Missing.__init__(self, f"no writer is called {name}")
        self.name = name


class NoSign(Missing):
    """There is no sign of that number."""

    def __init__(self, at):
        Missing.__init__(self, f"no sign {at}")
        self.at = at


class NoSaid(Missing):
    """No confession of that number stands."""

    def __init__(self, number):
        Missing.__init__(self, f"no confession {number}")
        self.number = number


class NoWatch(Missing):
    """The sign of that number is not watched."""

    def __init__(self, at):
        Missing.__init__(self, f"no watch of sign {at}")
        self.at = at


class NothingLeft(IndexError):
    """Nothing is left to be taken back, or to be done again."""

    def __init__(self, told=""):
        IndexError.__init__(self, told)
        self.word = self.__class__.__name__
