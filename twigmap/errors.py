"""The refusals: one class each, all of them straight under TwigError."""


class TwigError(ValueError):
    pass


class NoKey(TwigError):
    pass


class NoLeaf(TwigError):
    pass


class NoStem(TwigError):
    pass


class NoText(TwigError):
    def __init__(self, at):
        self.at = at


class NoTwig(TwigError):
    def __init__(self, number):
        self.number = number


class NotHeld(TwigError):
    def __init__(self, number):
        self.number = number


class Shared(TwigError):
    def __init__(self, number):
        self.number = number


class NoPlace(TwigError):
    def __init__(self, at):
        self.at = at


class NotRising(TwigError):
    def __init__(self, at):
        self.at = at


class Overlap(TwigError):
    def __init__(self, key):
        self.key = key


class Stale(TwigError):
    def __init__(self, key):
        self.key = key


class NoName(TwigError):
    def __init__(self, name):
        self.name = name


class Taken(TwigError):
    def __init__(self, name):
        self.name = name


class NoVersion(TwigError):
    def __init__(self, number):
        self.number = number


class NoRow(TwigError):
    def __init__(self, at):
        self.at = at
