"""Prices: what it costs to sing other notes than a pattern's."""

from fourvoices.scores import columns


def price(column, given, prices=None):
    told = 0
    for voice, note in enumerate(column):
        if given[voice] is not None and given[voice] != note:
            told += 1 if prices is None else prices[voice]
    return told


def column_prices(machine, given, prices):
    told = {}
    for column in columns(machine.score):
        told[column] = price(column, given, prices)
    return told


def least_price(ways, costs, later):
    return min([costs[column] + later[state] for column, state in ways if later[state] is not None], default=None)


def prices_paper(machine, pattern, prices=None):
    backward = [[0 if machine.ends(state) else None for state in machine.states()]]
    for given in reversed(pattern):
        costs = column_prices(machine, given, prices)
        later = backward[-1]
        backward.append([least_price(machine.ways(state), costs, later) for state in machine.states()])
    return list(reversed(backward))
