"""The reader of a rule's row. A maker tells None of what isn't a row of its kind."""

from fourvoices.errors import BadRow
from fourvoices.memories import Every, Held, Times
from fourvoices.rules import Begin, Clock, Close, Span
from fourvoices.steps import Alike, Back, Move
from fourvoices.words import is_number

MOST_NUMBERS = 12
INNER_KINDS = ("span", "clock")


def are_voices(numbers, voices):
    return all([1 <= number <= voices for number in numbers])


def has_list(numbers, ahead):
    return 1 <= len(numbers) - ahead <= MOST_NUMBERS


def span_of(row, numbers, voices):
    if not has_list(numbers, 2) or not are_voices(numbers[:2], voices):
        return None
    return Span(row, numbers[0], numbers[1], numbers[2:])


def clock_of(row, numbers, voices):
    if not has_list(numbers, 3) or not are_voices(numbers[:2], voices) or numbers[2] < 1:
        return None
    return Clock(row, numbers[0], numbers[1], numbers[2], numbers[3:])


def move_of(row, numbers, voices):
    if not has_list(numbers, 1) or not are_voices(numbers[:1], voices):
        return None
    return Move(row, numbers[0], numbers[1:])


def alike_of(row, numbers, voices):
    if not has_list(numbers, 2) or not are_voices(numbers[:2], voices):
        return None
    return Alike(row, numbers[0], numbers[1], numbers[2:])


def back_of(row, numbers, voices):
    if len(numbers) != 2 or not are_voices(numbers[:1], voices) or numbers[1] < 0:
        return None
    return Back(row, numbers[0], numbers[1])


def held_of(row, numbers, voices):
    if len(numbers) != 2 or not are_voices(numbers[:1], voices) or numbers[1] < 1:
        return None
    return Held(row, numbers[0], numbers[1])


def times_of(row, numbers, voices):
    if len(numbers) != 4 or not are_voices(numbers[:1], voices) or min(numbers[2:]) < 0:
        return None
    return Times(row, numbers[0], numbers[1], numbers[2], numbers[3])


def begin_of(row, numbers, voices):
    if not has_list(numbers, 1) or not are_voices(numbers[:1], voices):
        return None
    return Begin(row, numbers[0], numbers[1:])


def close_of(row, numbers, voices):
    if not has_list(numbers, 1) or not are_voices(numbers[:1], voices):
        return None
    return Close(row, numbers[0], numbers[1:])


MAKERS = {
    "span": span_of,
    "clock": clock_of,
    "move": move_of,
    "alike": alike_of,
    "back": back_of,
    "held": held_of,
    "times": times_of,
    "begin": begin_of,
    "close": close_of,
}


def plain_rule(row, voices):
    words = row.split(" ")
    if words[0] not in MAKERS or not all([is_number(word) for word in words[1:]]):
        return None
    return MAKERS[words[0]](row, [int(word) for word in words[1:]], voices)


def every_rule(row, voices):
    words = row.split(" ", 3)
    if len(words) != 4 or not is_number(words[1]) or not is_number(words[2]):
        return None
    turns = int(words[1])
    turn = int(words[2])
    if not 0 <= turn < turns or words[3].split(" ")[0] not in INNER_KINDS:
        return None
    inner = plain_rule(words[3], voices)
    return None if inner is None else Every(row, turns, turn, inner)


def read_rule(text, voices, row=0):
    rule = every_rule(text, voices) if text.startswith("every ") else plain_rule(text, voices)
    if rule is None:
        raise BadRow(row)
    return rule
