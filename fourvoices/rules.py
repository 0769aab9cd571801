"""Rules: their base, those that look at one column alone, and going along a line."""


def note_in(column, voice):
    return column[voice - 1]


def span(column, first, second):
    return note_in(column, second) - note_in(column, first)


class Rule:
    # As it stands here a rule always holds; each kind says only where it differs.
    def __init__(self, row):
        self.row = row

    def size(self):
        return 1

    def start(self):
        return 0

    def after(self, memory, before, column):
        return memory

    def closes(self, memory, last):
        return True

    def shown(self):
        return self.row


class Span(Rule):
    def __init__(self, row, first, second, numbers):
        Rule.__init__(self, row)
        self.first = first
        self.second = second
        self.numbers = list(numbers)

    def after(self, memory, before, column):
        return memory if span(column, self.first, self.second) in self.numbers else None


class Clock(Rule):
    def __init__(self, row, first, second, hours, numbers):
        Rule.__init__(self, row)
        self.first = first
        self.second = second
        self.hours = hours
        self.numbers = list(numbers)

    def after(self, memory, before, column):
        return memory if span(column, self.first, self.second) % self.hours in self.numbers else None


class Begin(Rule):
    def __init__(self, row, voice, notes):
        Rule.__init__(self, row)
        self.voice = voice
        self.notes = list(notes)

    def after(self, memory, before, column):
        return memory if before is not None or note_in(column, self.voice) in self.notes else None


class Close(Rule):
    def __init__(self, row, voice, notes):
        Rule.__init__(self, row)
        self.voice = voice
        self.notes = list(notes)

    def closes(self, memory, last):
        return last is None or note_in(last, self.voice) in self.notes


def broken_at(rule, line):
    memory = rule.start()
    before = None
    for place, column in enumerate(line):
        memory = rule.after(memory, before, column)
        if memory is None:
            return place
        before = column
    return None if rule.closes(memory, before) else len(line)
