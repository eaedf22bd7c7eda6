"""The refusals: one class for each, all straight under PollError."""


# Any refusal: who takes this one takes them all.
class PollError(ValueError):
    pass


class NoNumber(PollError):
    pass


class NoBallot(PollError):
    pass


class NoSheet(PollError):
    pass


class NoChange(PollError):
    pass


class Torn(PollError):
    pass


class NoBundle(PollError):
    pass


# The words of the two that bear values are left to Python:
# a text made of a very great number would itself be refused.
class WrongNumber(PollError):
    def __init__(self, wanted, got):
        self.wanted = wanted
        self.got = got


class NoWay(PollError):
    pass


class TooHard(PollError):
    def __init__(self, at_least):
        self.at_least = at_least


class Ended(PollError):
    pass


class NoRow(PollError):
    pass
