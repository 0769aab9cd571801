"""Rules that look at the step from one column to the following one."""

from fourvoices.rules import Rule, note_in, span

NO_LEAP = 0
LEAP_UP = 1
LEAP_DOWN = 2


def move(before, column, voice):
    return note_in(column, voice) - note_in(before, voice)


class Move(Rule):
    def __init__(self, row, voice, numbers):
        Rule.__init__(self, row)
        self.voice = voice
        self.numbers = list(numbers)

    def after(self, memory, before, column):
        return memory if before is None or move(before, column, self.voice) in self.numbers else None


class Alike(Rule):
    def __init__(self, row, first, second, numbers):
        Rule.__init__(self, row)
        self.first = first
        self.second = second
        self.numbers = list(numbers)

    def after(self, memory, before, column):
        if before is None or move(before, column, self.first) == 0:
            return memory
        now = span(column, self.first, self.second)
        return None if now == span(before, self.first, self.second) and now in self.numbers else memory


class Back(Rule):
    def __init__(self, row, voice, widest):
        Rule.__init__(self, row)
        self.voice = voice
        self.widest = widest

    def size(self):
        return 3

    def start(self):
        return NO_LEAP

    def after(self, memory, before, column):
        if before is None:
            return NO_LEAP
        step = move(before, column, self.voice)
        if (memory == LEAP_UP and step >= 0) or (memory == LEAP_DOWN and step <= 0):
            return None
        if step > self.widest:
            return LEAP_UP
        return LEAP_DOWN if step < 0 - self.widest else NO_LEAP

    def closes(self, memory, last):
        return memory == NO_LEAP
