"""What the document's words say, gone through one by one: the tests hold the program against it.

Nothing here draws on the package: rows are split, places looked at and lines listed anew."""

import itertools

FORTY = 10 ** 40 - 1


def is_whole(value):
    return isinstance(value, int) and not isinstance(value, bool)


def note(line, place, voice):
    return line[place][voice - 1]


def move(line, place, voice):
    return note(line, place, voice) - note(line, place - 1, voice)


def span(line, place, one, other):
    return note(line, place, other) - note(line, place, one)


def span_broken(numbers, line, place):
    one, other, *told = numbers
    return span(line, place, one, other) not in told


def clock_broken(numbers, line, place):
    one, other, hours, *told = numbers
    rest = span(line, place, one, other)
    rest -= rest // hours * hours
    return rest not in told


def move_broken(numbers, line, place):
    voice, *told = numbers
    return place >= 1 and move(line, place, voice) not in told


def alike_broken(numbers, line, place):
    one, other, *told = numbers
    if place < 1 or move(line, place, one) == 0:
        return False
    now = span(line, place, one, other)
    return now == span(line, place - 1, one, other) and now in told


def back_broken(numbers, line, place):
    voice, widest = numbers
    if place < 2:
        return False
    ahead, now = move(line, place - 1, voice), move(line, place, voice)
    return ahead > widest and now >= 0 or ahead < -widest and now <= 0


def held_broken(numbers, line, place):
    voice, most = numbers
    if place < most:
        return False
    return all(note(line, earlier, voice) == note(line, place, voice) for earlier in range(place - most, place))


def times_broken(numbers, line, place):
    voice, wanted, low, high = numbers
    if note(line, place, voice) != wanted:
        return False
    return sum(1 for column in line[:place + 1] if column[voice - 1] == wanted) > high


def begin_broken(numbers, line, place):
    voice, *told = numbers
    return place == 0 and note(line, 0, voice) not in told


def never_broken(numbers, line, place):
    return False


AT_PLACES = {
    "span": span_broken, "clock": clock_broken, "move": move_broken, "alike": alike_broken, "back": back_broken,
    "held": held_broken, "times": times_broken, "begin": begin_broken, "close": never_broken,
}


def broken_there(row, line, place):
    kind, *words = row.split(" ")
    if kind == "every":
        turns, turn = int(words[0]), int(words[1])
        return place % turns == turn and broken_there(" ".join(words[2:]), line, place)
    return AT_PLACES[kind]([int(word) for word in words], line, place)


def broken_at_close(row, line):
    kind, *words = row.split(" ")
    if kind == "back":
        voice, widest = int(words[0]), int(words[1])
        return len(line) > 1 and abs(move(line, len(line) - 1, voice)) > widest
    if kind == "times":
        voice, wanted, low, high = [int(word) for word in words]
        return sum(1 for column in line if column[voice - 1] == wanted) < low
    if kind == "close":
        voice, *told = [int(word) for word in words]
        return line != [] and line[-1][voice - 1] not in told
    return False


def first_broken(row, line):
    for place in range(len(line)):
        if broken_there(row, line, place):
            return place
    return len(line) if broken_at_close(row, line) else None


def row_broken(row, voice, line, place):
    kind, *words = row.split(" ")
    if kind == "voice":
        return place < len(line) and not int(words[0]) <= line[place][voice] <= int(words[1])
    return broken_there(row, line, place) if place < len(line) else broken_at_close(row, line)


def fault_of(text, line):
    rows = text.split("\n")
    for place in range(len(line) + 1):
        for number, row in enumerate(rows):
            if row_broken(row, number, line, place):
                return place, number
    return None


def ranges_of(text):
    words = [row.split(" ") for row in text.split("\n")]
    return [(int(row[1]), int(row[2])) for row in words if row[0] == "voice"]


def columns_of(text):
    return list(itertools.product(*[range(low, high + 1) for low, high in ranges_of(text)]))


def all_lines(columns, long):
    return [list(line) for line in itertools.product(columns, repeat=long)]


def takes(pattern, line):
    pairs = zip(pattern, line)
    return len(pattern) == len(line) and all(
        wanted in (None, told) for given, column in pairs for wanted, told in zip(given, column))


def fitting_lines(text, long):
    return [line for line in all_lines(columns_of(text), long) if fault_of(text, line) is None]


def agreeing_lines(text, pattern):
    return [line for line in fitting_lines(text, len(pattern)) if takes(pattern, line)]


# Small scores with rules of all kinds, so that all of their short lines can be gone through.
SMALL = tuple("\n".join(rows) for rows in (
    ("voice 0 0",),
    ("voice 0 2",),
    ("voice -1 1", "move 1 1 -1"),
    ("voice 0 3", "move 1 1 -1 2 -2", "back 1 1"),
    ("voice 0 2", "back 1 0"),
    ("voice 0 2", "held 1 1", "begin 1 0 2", "close 1 1 2"),
    ("voice 0 1", "held 1 3"),
    ("voice 0 2", "times 1 1 1 2"),
    ("voice 0 2", "times 1 1 2 1"),
    ("voice 0 2", "times 1 0 0 0", "times 1 2 2 3"),
    ("voice 0 1", "times 1 1 3 4", "held 1 2"),
    ("voice 0 2", "begin 1 1", "move 1 1"),
    ("voice 0 2", "begin 1 7"),
    ("voice 0 2", "close 1 7"),
    ("voice 0 2", "begin 1 0", "move 1 1", "close 1 2"),
    ("voice 0 1", "span 1 1 5"),
    ("voice 0 2", "every 2 0 span 1 1 1"),
    ("voice 0 1", "every 3 2 clock 1 1 4 1", "begin 1 0"),
    ("voice 0 1", "every 2 1 span 1 1 0", "alike 1 1 0"),
    ("voice 5 6", "voice 6 7", "span 1 2 0 1 2"),
    ("voice 0 1", "voice 0 1", "clock 1 2 2 1"),
    ("voice -1 1", "voice 0 1", "clock 2 1 3 0 1", "move 2 0 1 -1"),
    ("voice 0 1", "voice 0 2", "alike 1 2 0 1", "held 2 1"),
    ("voice 0 1", "voice 0 1", "alike 2 1 0", "times 1 0 1 2", "close 2 0"),
    ("voice 0 1", "voice 0 1", "every 2 1 span 1 2 0", "back 1 0"),
    ("voice 0 1", "voice 3 3", "voice 0 1", "clock 1 3 2 0", "held 1 2", "begin 3 1"),
    ("voice 0 1", "voice 0 0", "voice 1 1", "voice 0 1", "span 4 1 0 1", "alike 1 4 0", "times 4 1 1 3", "held 1 2"),
    ("voice 60 61", "voice 64 65", "span 1 2 3 4", "clock 1 2 12 3 4 5", "move 1 0 1 -1", "alike 1 2 3", "back 2 1",
     "held 1 2", "times 2 64 0 2", "begin 1 60", "close 1 60", "every 2 1 span 1 2 4"),
    (f"voice {FORTY - 1} {FORTY}", f"times 1 {FORTY} 1 2", "move 1 0 1 -1"),
    (f"voice -{FORTY} -{FORTY - 1}", "held 1 2", f"close 1 -{FORTY}"),
))


def longest_for(text):
    """So many columns that all lines up to there can be gone through in a short while."""
    many = len(columns_of(text))
    return max(long for long in range(6) if many ** long <= 700)


def patterns_for(text, long):
    """Patterns with and without holes, with notes out of the ranges, one after another."""
    ranges = ranges_of(text)
    voices = len(ranges)
    yield [(None,) * voices] * long
    if long == 0:
        return
    columns = columns_of(text)
    yield [columns[place % len(columns)] for place in range(long)]
    for turn in range(2 * long + 2):
        yield [tuple(
            None if (place * 2 + voice + turn) % 3 else ranges[voice][0] + (place + turn) % 2
            for voice in range(voices)) for place in range(long)]
    for place in (0, long - 1):
        pattern = [(None,) * voices] * long
        pattern[place] = (None,) * (voices - 1) + (ranges[-1][1] + 1,)
        yield pattern
        pattern = [(None,) * voices] * long
        pattern[place] = (ranges[0][0],) + (None,) * (voices - 1)
        yield pattern
