"""The refusals of the program: one class for each, all straight under WebError."""


class WebError(ValueError):
    pass


class NoWeb(WebError):
    pass


class NoDoor(WebError):
    pass


class NoStone(WebError):
    pass


class TooMany(WebError):
    pass


class Clash(WebError):
    def __init__(self, words, why):
        WebError.__init__(self, words)
        self.why = why


class NoMark(WebError):
    pass


class NotWhole(WebError):
    pass


class BadRow(WebError):
    def __init__(self, words, row):
        WebError.__init__(self, words)
        self.row = row
