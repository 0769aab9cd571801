"""Lines and patterns: read from a text, shown as a text, held against one another."""

from fourvoices.errors import BadLine
from fourvoices.words import is_number

HOLE = "."


def is_note(word):
    return word == HOLE or is_number(word)


def note_of(word):
    return None if word == HOLE else int(word)


def read_column(piece, voices, place):
    words = piece.split(",")
    if len(words) != voices or not all([is_note(word) for word in words]):
        raise BadLine(place)
    return tuple([note_of(word) for word in words])


def read_line(text, voices):
    # Split at its blanks, the text without signs would be one column, not none.
    if text == "":
        return []
    return [read_column(piece, voices, place) for place, piece in enumerate(text.split(" "))]


def shown_note(note):
    return HOLE if note is None else str(note)


def shown_column(column):
    return ",".join([shown_note(note) for note in column])


def shown_line(pattern):
    return " ".join([shown_column(column) for column in pattern])


def agrees(column, given):
    return all([wanted is None or wanted == note for note, wanted in zip(column, given)])


def holes(voices, many):
    return [(None,) * voices] * many
