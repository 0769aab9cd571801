"""What the document's words say, gone through one by one: the tests hold the program against it.

Nothing here draws on the package: rows are split, places looked at and lines listed anew."""

import itertools

FORTY = 10 ** 40 - 1


def is_whole(value):
    return isinstance(value, int) and not isinstance(value, bool)


def note(line, place, voice):
    return line[place][voice - 1]


def move(line, place, voice):
    return note(line, place, voice) - note(line, place - 1, voice)


def span(line, place, one, other):
    return note(line, place, other) - note(line, place, one)


def span_broken(numbers, line, place):
    one, other, *told = numbers
    return span(line, place, one, other) not in told


def clock_broken(numbers, line, place):
    one, other, hours, *told = numbers
    rest = span(line, place, one, other)
    rest -= rest // hours * hours
    return rest not in told


def move_broken(numbers, line, place):
    voice, *told = numbers
    return place >= 1 and move(line, place, voice) not in told


def alike_broken(numbers, line, place):
    one, other, *told = numbers
    if place < 1 or move(line, place, one) == 0:
        return False
    now = span(line, place, one, other)
    return now == span(line, place - 1, one, other) and now in told


def back_broken(numbers, line, place):
    voice, widest = numbers
    if place < 2:
        return False
    ahead, now = move(line, place - 1, voice), move(line, place, voice)
    return ahead > widest and now >= 0 or ahead < -widest and now <= 0


def held_broken(numbers, line, place):
    voice, most = numbers
    if place < most:
        return False
    return all(note(line, earlier, voice) == note(line, place, voice) for earlier in range(place - most, place))


def times_broken(numbers, line, place):
    voice, wanted, low, high = numbers
    if note(line, place, voice) != wanted:
        return False
    return sum(1 for column in line[:place + 1] if column[voice - 1] == wanted) > high


def begin_broken(numbers, line, place):
    voice, *told = numbers
    return place == 0 and note(line, 0, voice) not in told


def never_broken(numbers, line, place):
    return False


AT_PLACES = {
    "span": span_broken, "clock": clock_broken, "move": move_broken, "alike": alike_broken, "back": back_broken,
    "held": held_broken, "times": times_broken, "begin": begin_broken, "close": never_broken,
}


def broken_there(row, line, place):
    kind, *words = row.split(" ")
    if kind == "every":
        turns, turn = int(words[0]), int(words[1])
        return place % turns == turn and broken_there(" ".join(words[2:]), line, place)
    return AT_PLACES[kind]([int(word) for word in words], line, place)


def broken_at_close(row, line):
    kind, *words = row.split(" ")
    if kind == "back":
        voice, widest = int(words[0]), int(words[1])
        return len(line) > 1 and abs(move(line, len(line) - 1, voice)) > widest
    if kind == "times":
        voice, wanted, low, high = [int(word) for word in words]
        return sum(1 for column in line if column[voice - 1] == wanted) < low
    if kind == "close":
        voice, *told = [int(word) for word in words]
        return line != [] and line[-1][voice - 1] not in told
    return False


def first_broken(row, line):
    for place in range(len(line)):
        if broken_there(row, line, place):
            return place
    return len(line) if broken_at_close(row, line) else None


def row_broken(row, voice, line, place):
    kind, *words = row.split(" ")
    if kind == "voice":
        return place < len(line) and not int(words[0]) <= line[place][voice] <= int(words[1])
    return broken_there(row, line, place) if place < len(line) else broken_at_close(row, line)


def fault_of(text, line):
    rows = text.split("\n")
    for place in range(len(line) + 1):
        for number, row in enumerate(rows):
            if row_broken(row, number, line, place):
                return place, number
    return None


def ranges_of(text):
    words = [row.split(" ") for row in text.split("\n")]
    return [(int(row[1]), int(row[2])) for row in words if row[0] == "voice"]


def columns_of(text):
    return list(itertools.product(*[range(low, high + 1) for low, high in ranges_of(text)]))


def all_lines(columns, long):
    return [list(line) for line in itertools.product(columns, repeat=long)]


def takes(pattern, line):
    pairs = zip(pattern, line)
    return len(pattern) == len(line) and all(
        wanted in (None, told) for given, column in pairs for wanted, told in zip(given, column))


def fitting_lines(text, long):
    return [line for line in all_lines(columns_of(text), long) if fault_of(text, line) is None]


def agreeing_lines(text, pattern):
    return [line for line in fitting_lines(text, len(pattern)) if takes(pattern, line)]
