"""Mending: the fitting line of the least price in the place of a pattern."""

from fourvoices.errors import NoLine
from fourvoices.machine import START
from fourvoices.prices import price, prices_paper


def cheapest_way(ways, given, prices, least, later):
    # Ways stand in the order of their columns, so the first of the least price begins the first line.
    for column, state in ways:
        if later[state] is not None and price(column, given, prices) + later[state] == least:
            return (column, state)
    return None


def mended(machine, pattern, prices=None):
    paper = prices_paper(machine, pattern, prices)
    if paper[0][START] is None:
        raise NoLine(len(pattern))
    line = []
    state = START
    for place, given in enumerate(pattern):
        way = cheapest_way(machine.ways(state), given, prices, paper[place][state], paper[place + 1])
        line.append(way[0])
        state = way[1]
    return (paper[0][START], line)
