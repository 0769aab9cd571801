"""How long lines may be: the ring of an endless machine, the heights and the longest line of others."""

from fourvoices.errors import Endless
from fourvoices.folds import alive_states, sources_of
from fourvoices.machine import START
from fourvoices.parts import line_to


def alive_ways(machine, state, alive):
    return [way for way in machine.ways(state) if alive[way[1]]]


# A state gets its height when all alive ones that it leads to have theirs. So None is left to those that aren't alive
# and to those from which lines go on without an end.
def settled_heights(machine, alive):
    sources = sources_of(machine)
    waiting = [len(alive_ways(machine, state, alive)) for state in machine.states()]
    left = [state for state in machine.states() if alive[state] and waiting[state] == 0]
    told = [0 if state in left else None for state in machine.states()]
    while len(left) > 0:
        target = left.pop()
        for source in sources[target]:
            waiting[source] -= 1
            if waiting[source] == 0:
                told[source] = 1 + max([told[way[1]] for way in alive_ways(machine, source, alive)])
                left.append(source)
    return told


# For each state whether lines that fit go on from it without an end.
def endless_states(machine):
    alive = alive_states(machine)
    told = settled_heights(machine, alive)
    return [alive[state] and told[state] is None for state in machine.states()]


# From an endless state some way leads to another one, so that this comes round at last.
def ring_from(machine, first, endless):
    state = first
    places = {}
    line = []
    while state not in places:
        places[state] = len(line)
        way = alive_ways(machine, state, endless)[0]
        line.append(way[0])
        state = way[1]
    return (state, line[places[state]:])


def shortest_line(machine, first, goals):
    origins = {first: None}
    met = [first]
    place = 0
    while not goals[met[place]]:
        state = met[place]
        for column, target in machine.ways(state):
            if target not in origins:
                origins[target] = (state, column)
                met.append(target)
        place += 1
    return line_to(met[place], origins)


def ring_of(machine):
    endless = endless_states(machine)
    if True not in endless:
        return None
    found = ring_from(machine, endless.index(True), endless)
    head = shortest_line(machine, START, [state == found[0] for state in machine.states()])
    tail = shortest_line(machine, found[0], [machine.ends(state) for state in machine.states()])
    return (head, found[1], tail)


def heights(machine):
    if True in endless_states(machine):
        raise Endless()
    return settled_heights(machine, alive_states(machine))


def longest(machine):
    told = heights(machine)[START]
    return -1 if told is None else told
