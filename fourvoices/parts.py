"""Two machines gone along side by side: the pairs of their states, and the first line that parts them."""

from fourvoices.errors import Apart
from fourvoices.machine import START
from fourvoices.scores import columns

NOWHERE = (None, None)


def led(machine, state, column):
    return None if state is None else machine.to(state, column)


def ends_well(machine, state):
    return state is not None and machine.ends(state)


# Tells the pairs that are met for the first time, and keeps by which pair and column each was met.
def new_pairs(one, other, pair, steps, origins):
    told = []
    for column in steps:
        found = (led(one, pair[0], column), led(other, pair[1], column))
        if found != NOWHERE and found not in origins:
            origins[found] = (pair, column)
            told.append(found)
    return told


def line_to(pair, origins):
    backward = []
    while origins[pair] is not None:
        backward.append(origins[pair][1])
        pair = origins[pair][0]
    return list(reversed(backward))


# Pairs are met by shorter lines first, and by lines of the same length in their order.
def parting_line(one, other, pair, steps):
    origins = {pair: None}
    met = [pair]
    place = 0
    while place < len(met):
        if ends_well(one, met[place][0]) != ends_well(other, met[place][1]):
            return line_to(met[place], origins)
        met.extend(new_pairs(one, other, met[place], steps, origins))
        place += 1
    return None


def steps_of_both(one, other):
    if len(one.score.ranges) != len(other.score.ranges):
        raise Apart(0)
    return sorted(set(columns(one.score) + columns(other.score)))


def pairs(one, other):
    steps = steps_of_both(one, other)
    met = [(START, START)]
    origins = {(START, START): None}
    place = 0
    while place < len(met):
        met.extend(new_pairs(one, other, met[place], steps, origins))
        place += 1
    return met


def parted(one, other):
    return parting_line(one, other, (START, START), steps_of_both(one, other))
