"""The desk: scores kept by names, told and asked by rows of text."""

from fourvoices.counts import counted
from fourvoices.errors import BadLine, Endless, NoName, NoRow
from fourvoices.joins import joined
from fourvoices.lines import holes, read_line, shown_line
from fourvoices.machine import Machine
from fourvoices.mends import mended
from fourvoices.numbers import line_at, number_of
from fourvoices.parts import parted
from fourvoices.reader import read, shown
from fourvoices.rings import longest
from fourvoices.scores import fault
from fourvoices.words import is_number

LETTERS = "abcdefghijklmnopqrstuvwxyz"
MOST_LETTERS = 8
ROWS_PARTED = "; "

# LINE and ROWS count as one word.
MANY_WORDS = {
    "score": 3,
    "join": 4,
    "drop": 2,
    "show": 2,
    "fault": 3,
    "count": 3,
    "line": 4,
    "number": 3,
    "mend": 3,
    "part": 3,
    "long": 2,
}
WITH_LINE_OR_ROWS = ("score", "fault", "count", "line", "number", "mend")
WITH_NAMES_ALONE = ("join", "part")
WITH_NEW_NAME = ("score", "join")


def words_of(row):
    kind = row.split(" ")[0]
    if kind not in MANY_WORDS:
        raise NoRow()
    many = MANY_WORDS[kind]
    words = row.split(" ", many - 1) if kind in WITH_LINE_OR_ROWS else row.split(" ")
    if len(words) != many or (kind == "line" and not is_number(words[2])):
        raise NoRow()
    return words


def names_of(words):
    return words[1:] if words[0] in WITH_NAMES_ALONE else words[1:2]


def is_name(word):
    return 1 <= len(word) <= MOST_LETTERS and all([sign in LETTERS for sign in word])


def pattern_of(score, text):
    return read_line(text, len(score.ranges))


def whole_line_of(score, text):
    line = pattern_of(score, text)
    for place, column in enumerate(line):
        if None in column:
            raise BadLine(place)
    return line


def answer_score(desk, words):
    desk.keep(words[1], read("\n".join(words[2].split(ROWS_PARTED))))
    return "ok"


def answer_join(desk, words):
    desk.keep(words[1], joined(desk.scores[words[2]], desk.scores[words[3]]))
    return "ok"


def answer_drop(desk, words):
    desk.forget(words[1])
    return "ok"


def answer_show(desk, words):
    return ROWS_PARTED.join(shown(desk.scores[words[1]]).split("\n"))


def answer_fault(desk, words):
    score = desk.scores[words[1]]
    found = fault(score, whole_line_of(score, words[2]))
    if found is None:
        return "fits"
    place = found[0]
    row = found[1]
    return f"{place} {row}"


def answer_count(desk, words):
    pattern = pattern_of(desk.scores[words[1]], words[2])
    return str(counted(desk.machine_of(words[1]), pattern))


def answer_line(desk, words):
    pattern = pattern_of(desk.scores[words[1]], words[3])
    return shown_line(line_at(desk.machine_of(words[1]), pattern, int(words[2])))


def answer_number(desk, words):
    score = desk.scores[words[1]]
    line = whole_line_of(score, words[2])
    return str(number_of(desk.machine_of(words[1]), holes(len(score.ranges), len(line)), line))


def answer_mend(desk, words):
    pattern = pattern_of(desk.scores[words[1]], words[2])
    found = mended(desk.machine_of(words[1]), pattern)
    cost = found[0]
    line = shown_line(found[1])
    return f"{cost} {line}"


def answer_part(desk, words):
    found = parted(desk.machine_of(words[1]), desk.machine_of(words[2]))
    return "same" if found is None else "apart " + shown_line(found)


def answer_long(desk, words):
    try:
        return str(longest(desk.machine_of(words[1])))
    except Endless:
        return "endless"


ANSWERS = {
    "score": answer_score,
    "join": answer_join,
    "drop": answer_drop,
    "show": answer_show,
    "fault": answer_fault,
    "count": answer_count,
    "line": answer_line,
    "number": answer_number,
    "mend": answer_mend,
    "part": answer_part,
    "long": answer_long,
}


class Desk:
    def __init__(self):
        self.scores = {}
        self.machines = {}

    def say(self, row):
        words = words_of(row)
        self.check_names(words)
        return ANSWERS[words[0]](self, words)

    def check_names(self, words):
        needed_from = 1 if words[0] in WITH_NEW_NAME else 0
        for place, name in enumerate(names_of(words)):
            if not is_name(name) or (place >= needed_from and name not in self.scores):
                raise NoName(name)

    def keep(self, name, score):
        self.scores[name] = score
        self.machines.pop(name, None)

    def forget(self, name):
        self.scores.pop(name)
        self.machines.pop(name, None)

    # Made when it is first asked for, since some scores are only kept and joined.
    def machine_of(self, name):
        if name not in self.machines:
            self.machines[name] = Machine(self.scores[name])
        return self.machines[name]
