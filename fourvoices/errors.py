"""The refusals: one class for each, all of them under ScoreError."""


class ScoreError(ValueError):
    pass


class BadRow(ScoreError):
    def __init__(self, row):
        self.row = row


class BadLine(ScoreError):
    def __init__(self, place):
        self.place = place


class TooWide(ScoreError):
    def __init__(self, weight):
        self.weight = weight


class Apart(ScoreError):
    def __init__(self, voice):
        self.voice = voice


class Crowded(ScoreError):
    def __init__(self, many):
        self.many = many


class NoNumber(ScoreError):
    def __init__(self, number):
        self.number = number


class Unlike(ScoreError):
    def __init__(self, place):
        self.place = place


class Unfit(ScoreError):
    def __init__(self, place, row):
        self.place = place
        self.row = row


class NoLine(ScoreError):
    def __init__(self, long):
        self.long = long


class NoName(ScoreError):
    def __init__(self, name):
        self.name = name


class Endless(ScoreError):
    pass


class NoRow(ScoreError):
    pass
