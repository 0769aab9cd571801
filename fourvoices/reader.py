"""The text of a score, read and shown."""

from fourvoices.errors import BadRow
from fourvoices.rulereader import read_rule
from fourvoices.scores import Score, not_too_wide
from fourvoices.words import is_number

MOST_VOICES = 4
MOST_RULES = 12


def voice_range(row):
    words = row.split(" ")
    if len(words) != 3 or words[0] != "voice" or not all([is_number(word) for word in words[1:]]):
        return None
    bounds = (int(words[1]), int(words[2]))
    return bounds if bounds[0] <= bounds[1] else None


def read(text):
    ranges = []
    rules = []
    for number, row in enumerate(text.split("\n")):
        bounds = voice_range(row)
        if bounds is not None and len(ranges) < MOST_VOICES and len(rules) == 0:
            ranges.append(bounds)
        elif len(ranges) == 0 or len(rules) == MOST_RULES:
            raise BadRow(number)
        else:
            # No rule is told as a voice row: one that stands too late is refused here.
            rules.append(read_rule(row, len(ranges), number))
    return not_too_wide(Score(ranges, rules))


def shown(score):
    rows = [f"voice {low} {high}" for low, high in score.ranges]
    rows.extend([rule.shown() for rule in score.rules])
    return "\n".join(rows)
