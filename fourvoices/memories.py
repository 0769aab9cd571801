"""Rules that keep in mind how often, or where in a line, something stands."""

from fourvoices.rules import Rule, note_in


class Held(Rule):
    # The memory is the number of places ahead, side by side, that have the last note already.
    def __init__(self, row, voice, most):
        Rule.__init__(self, row)
        self.voice = voice
        self.most = most

    def size(self):
        return self.most

    def after(self, memory, before, column):
        if before is None or note_in(before, self.voice) != note_in(column, self.voice):
            return 0
        return memory + 1 if memory + 1 < self.most else None


class Times(Rule):
    # The memory is the number of places that have the note so far.
    def __init__(self, row, voice, note, fewest, most):
        Rule.__init__(self, row)
        self.voice = voice
        self.note = note
        self.fewest = fewest
        self.most = most

    def size(self):
        return self.most + 1

    def after(self, memory, before, column):
        if note_in(column, self.voice) != self.note:
            return memory
        return memory + 1 if memory < self.most else None

    def closes(self, memory, last):
        return memory >= self.fewest


class Every(Rule):
    # The memory is the coming place's remainder.
    def __init__(self, row, turns, turn, inner):
        Rule.__init__(self, row)
        self.turns = turns
        self.turn = turn
        self.inner = inner

    def size(self):
        return self.turns

    def after(self, memory, before, column):
        if memory == self.turn and self.inner.after(self.inner.start(), before, column) is None:
            return None
        return (memory + 1) % self.turns
