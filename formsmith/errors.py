"""The errors by which Formsmith refuses, one class for each refusal."""


class FormError(ValueError):
    pass


class BadWay(FormError):
    pass


class BadValue(FormError):
    pass


class BadValues(FormError):
    pass


class TooMany(FormError):
    pass


class Clash(FormError):
    pass


# The four below tell where something is wrong. Each keeps its place by
# itself, since none of these classes may stand under another one.


class BadText(FormError):

    def __init__(self, at):
        self.at = at


class BadName(FormError):

    def __init__(self, at):
        self.at = at


class Unclear(FormError):

    def __init__(self, at):
        self.at = at


class NoFill(FormError):

    def __init__(self, at):
        self.at = at
