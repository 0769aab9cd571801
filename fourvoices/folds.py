"""Folding: the machine with the fewest states that takes the same lines."""

from fourvoices.machine import START, States
from fourvoices.parts import parting_line
from fourvoices.scores import columns


def sources_of(machine):
    told = [[] for state in machine.states()]
    for state in machine.states():
        for column, target in machine.ways(state):
            told[target].append(state)
    return told


# For each state whether it is alive.
def alive_states(machine):
    sources = sources_of(machine)
    alive = [machine.ends(state) for state in machine.states()]
    left = [state for state in machine.states() if alive[state]]
    while len(left) > 0:
        target = left.pop()
        for source in sources[target]:
            if not alive[source]:
                alive[source] = True
                left.append(source)
    return alive


# Puts a number in the place of each sign: the same for the same signs, None for None.
def numbered_kinds(signs):
    numbers = {}
    for sign in signs:
        if sign is not None and sign not in numbers:
            numbers[sign] = len(numbers)
    return [None if sign is None else numbers[sign] for sign in signs]


def sign_of(kind, ways, kinds):
    if kind is None:
        return None
    return (kind, tuple([(column, kinds[target]) for column, target in ways if kinds[target] is not None]))


def how_many(kinds):
    return len(set(kinds))


# For each state the number of its kind, alike ones having the same, or None where it isn't alive.
def kinds_of(machine):
    ways = [machine.ways(state) for state in machine.states()]
    ends = [machine.ends(state) for state in machine.states()]
    alive = alive_states(machine)
    kinds = numbered_kinds([ends[state] if alive[state] else None for state in machine.states()])
    while True:
        finer = numbered_kinds([sign_of(kinds[state], ways[state], kinds) for state in machine.states()])
        if how_many(finer) == how_many(kinds):
            return kinds
        kinds = finer


class Folding(States):
    def __init__(self, machine):
        States.__init__(self)
        self.steps = columns(machine.score)
        kinds = kinds_of(machine)
        numbers = {}
        if kinds[START] is not None:
            numbers[kinds[START]] = START
            self.build(machine, kinds, numbers, [START])
        self.homes = [None if kind is None else numbers[kind] for kind in kinds]

    # Of each kind the member that is met first stands for all.
    def build(self, machine, kinds, numbers, members):
        while len(self.leads) < len(members):
            member = members[len(self.leads)]
            leads = {}
            for column, target in machine.ways(member):
                kind = kinds[target]
                if kind is None:
                    continue
                if kind not in numbers:
                    numbers[kind] = len(members)
                    members.append(target)
                leads[column] = numbers[kind]
            self.leads.append(leads)
            self.well.append(machine.ends(member))

    def home(self, state):
        return self.homes[state]

    def table(self):
        return [(self.ends(state), self.ways(state)) for state in self.states()]

    def tail(self, one, other):
        if one == other:
            return None
        return parting_line(self, self, (one, other), self.steps)
