"""Two scores joined to one that takes just the lines that fit both."""

from fourvoices.errors import Apart, Crowded
from fourvoices.reader import MOST_RULES
from fourvoices.scores import Score, not_too_wide


def common_range(one, other, voice):
    bounds = (max(one[0], other[0]), min(one[1], other[1]))
    if bounds[0] > bounds[1]:
        raise Apart(voice)
    return bounds


def common_ranges(one, other):
    if len(one) != len(other):
        raise Apart(0)
    return [common_range(one[place], other[place], place + 1) for place in range(len(one))]


def joined(one, other):
    ranges = common_ranges(one.ranges, other.ranges)
    rules = one.rules + other.rules
    if len(rules) > MOST_RULES:
        raise Crowded(len(rules))
    return not_too_wide(Score(ranges, rules))
