"""The refusals: each is made with its field as its one argument."""


class CalmError(ValueError):
    pass


class NoText(CalmError):
    def __init__(self, row):
        self.row = row


class NoName(CalmError):
    def __init__(self, name):
        self.name = name


class Twice(CalmError):
    def __init__(self, name):
        self.name = name


class TooMany(CalmError):
    def __init__(self, most):
        self.most = most


class NoStep(CalmError):
    def __init__(self, place):
        self.place = place


class NoLock(CalmError):
    def __init__(self, step):
        self.step = step
