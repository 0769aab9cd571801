"""How many of a pattern's lines have which note at a place."""

from fourvoices.counts import agreeing, counts_paper
from fourvoices.machine import START


# For each state: in how many ways columns that agree with the pattern lead to it from the start.
def arrivals(machine, pattern):
    told = [1 if state == START else 0 for state in machine.states()]
    for given in pattern:
        taken = agreeing(machine, given)
        farther = [0] * machine.size()
        for state, many in enumerate(told):
            for column, target in machine.ways(state):
                if column in taken:
                    farther[target] += many
        told = farther
    return told


def shares(machine, pattern, place, voice):
    bounds = machine.score.ranges[voice - 1]
    numbers = {}
    for note in range(bounds[0], bounds[1] + 1):
        numbers[note] = 0
    taken = agreeing(machine, pattern[place])
    later = counts_paper(machine, pattern[place + 1:])[0]
    for state, many in enumerate(arrivals(machine, pattern[:place])):
        for column, target in machine.ways(state):
            if column in taken:
                numbers[column[voice - 1]] += many * later[target]
    return list(numbers.items())
