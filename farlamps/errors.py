"""The refusals. Their wording is fixed, for what was refused may be a thing that cannot be shown as text."""


class LampError(ValueError):
    """Every refusal of the program is one of these."""


class NoLamp(LampError):
    """What was to be a lamp is none; what is the word of the first argument that is amiss."""

    def __init__(self, what):
        super().__init__("a lamp has a period from 1 on and a beat, both whole numbers")
        self.what = what


class NoLight(LampError):
    """What was to be a light is none; what is the word of the argument that is amiss."""

    def __init__(self, what):
        super().__init__("a light is made of a list or tuple of none to ten lamps")
        self.what = what


class NoBeat(LampError):
    """beat is the thing that is no beat."""

    def __init__(self, beat):
        super().__init__("a beat is a whole number")
        self.beat = beat


class NoNumber(LampError):
    """number is the thing that is no such number as was asked for."""

    def __init__(self, number):
        super().__init__("this is no number that may stand here")
        self.number = number


class NoPaper(LampError):
    """at tells where the paper does not show what it is to show."""

    def __init__(self, at):
        super().__init__("the paper does not show what it is to show")
        self.at = at


class NoWindow(LampError):
    """what is the word of the part by which a thing is no window."""

    def __init__(self, what):
        super().__init__("a window is a tuple of a beat and a text of one to sixty signs b, d, ?")
        self.what = what


class NoSize(LampError):
    """what is the word of the first argument that has no size as was asked for."""

    def __init__(self, what):
        super().__init__("an argument does not have the size that is asked for")
        self.what = what


class TooMany(LampError):
    """many is how many lamps there may be at most."""

    def __init__(self, many):
        super().__init__("there are more lamps than there may be")
        self.many = many
