"""Scores: ranges and rules, their columns and weight, and the fault of a line."""

from fourvoices.errors import TooWide
from fourvoices.rules import broken_at

MOST_WEIGHT = 400


class Score:
    def __init__(self, ranges, rules):
        self.ranges = list(ranges)
        self.rules = list(rules)


def lengthened(column, low, high):
    return [column + (note,) for note in range(low, high + 1)]


def columns(score):
    told = [()]
    for low, high in score.ranges:
        longer = []
        for column in told:
            longer.extend(lengthened(column, low, high))
        told = longer
    return told


def weight(score):
    # The columns are only counted: there may be far too many to be listed.
    told = 1
    for low, high in score.ranges:
        told *= high - low + 1
    for rule in score.rules:
        told *= rule.size()
    return told


def not_too_wide(score):
    told = weight(score)
    if told > MOST_WEIGHT:
        raise TooWide(told)
    return score


def first_outside(low, high, voice, line):
    for place, column in enumerate(line):
        if not low <= column[voice] <= high:
            return place
    return None


def fault(score, line):
    places = [first_outside(bounds[0], bounds[1], voice, line) for voice, bounds in enumerate(score.ranges)]
    places.extend([broken_at(rule, line) for rule in score.rules])
    # Tuples stand in order by the place first, then by the row.
    return min([(place, row) for row, place in enumerate(places) if place is not None], default=None)
