"""Counting the lines that fit and agree with a pattern."""

from fourvoices.lines import agrees
from fourvoices.machine import START
from fourvoices.scores import columns


def agreeing(machine, given):
    told = {}
    for column in columns(machine.score):
        if agrees(column, given):
            told[column] = True
    return told


def counted_on(ways, taken, later):
    return sum([later[state] for column, state in ways if column in taken])


def counts_paper(machine, pattern):
    backward = [[1 if machine.ends(state) else 0 for state in machine.states()]]
    for given in reversed(pattern):
        taken = agreeing(machine, given)
        later = backward[-1]
        backward.append([counted_on(machine.ways(state), taken, later) for state in machine.states()])
    return list(reversed(backward))


def counted(machine, pattern):
    return counts_paper(machine, pattern)[0][START]
