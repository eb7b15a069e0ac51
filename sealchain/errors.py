"""The refusals of the program, one class for each."""


class SealError(ValueError):
    pass


class NoRegister(SealError):
    def __init__(self, at):
        self.at = at


class NoText(SealError):
    def __init__(self, at):
        self.at = at


class NoWord(SealError):
    pass


class NoNumber(SealError):
    pass
