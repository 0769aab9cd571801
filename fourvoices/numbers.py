"""Numbers of lines: the lines of a pattern stand in their order, numbered from 0."""

from fourvoices.counts import counts_paper
from fourvoices.errors import NoNumber, Unfit, Unlike
from fourvoices.lines import agrees
from fourvoices.machine import START
from fourvoices.scores import fault


# The number is known to be one of the count's, so that each place finds its column.
def numbered(machine, pattern, paper, number):
    told = []
    state = START
    left = number
    for place, given in enumerate(pattern):
        for column, target in machine.ways(state):
            many = paper[place + 1][target] if agrees(column, given) else 0
            if left < many:
                told.append(column)
                state = target
                break
            left -= many
    return told


def line_at(machine, pattern, number):
    paper = counts_paper(machine, pattern)
    if not 0 <= number < paper[0][START]:
        raise NoNumber(number)
    return numbered(machine, pattern, paper, number)


def unlike_place(pattern, line):
    for place, pair in enumerate(zip(line, pattern)):
        if not agrees(pair[0], pair[1]):
            return place
    return None if len(pattern) == len(line) else min(len(pattern), len(line))


def lesser_ways(machine, state, given, column):
    return [target for lesser, target in machine.ways(state) if lesser < column and agrees(lesser, given)]


def ahead_by(machine, pattern, paper, line):
    told = 0
    state = START
    for place, column in enumerate(line):
        later = paper[place + 1]
        told += sum([later[target] for target in lesser_ways(machine, state, pattern[place], column)])
        state = machine.to(state, column)
        # Behind a column that isn't the pattern's or leads nowhere, no line goes the same way any more.
        if state is None or not agrees(column, pattern[place]):
            return told
    return told


def ahead(machine, pattern, line):
    return ahead_by(machine, pattern, counts_paper(machine, pattern), line)


def number_of(machine, pattern, line):
    place = unlike_place(pattern, line)
    if place is not None:
        raise Unlike(place)
    found = fault(machine.score, line)
    if found is not None:
        raise Unfit(found[0], found[1])
    return ahead(machine, pattern, line)


def following(machine, pattern, line):
    paper = counts_paper(machine, pattern)
    number = ahead_by(machine, pattern, paper, line)
    if unlike_place(pattern, line) is None and fault(machine.score, line) is None:
        number += 1
    return numbered(machine, pattern, paper, number) if number < paper[0][START] else None
