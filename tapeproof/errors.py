"""The refusals: one class for each, all of them beneath TapeError and none beneath another."""


class TapeError(ValueError):
    pass


class NoMachine(TapeError):
    pass


class NoNames(TapeError):
    pass


class NoNumber(TapeError):
    pass


class NoShot(TapeError):
    pass


class NoStretches(TapeError):
    pass


class TooLong(TapeError):
    pass


class NoShape(TapeError):
    pass


class NoMove(TapeError):
    pass


class NoWidth(TapeError):
    pass


class NoText(TapeError):
    def __init__(self, line):
        TapeError.__init__(self, "a row of the text is not as told")
        self.line = line
