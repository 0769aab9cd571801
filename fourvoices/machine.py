"""The machine of a score: where each column leads, and where a line may end."""

from fourvoices.scores import columns

START = 0


def memories_after(rules, memories, before, column):
    told = []
    for place, rule in enumerate(rules):
        memory = rule.after(memories[place], before, column)
        if memory is None:
            return None
        told.append(memory)
    return tuple(told)


def all_close(rules, memories, last):
    return all([rule.closes(memory, last) for rule, memory in zip(rules, memories)])


# What machines and foldings have in common: for each state where its columns lead, in order, and whether it ends well.
class States:
    def __init__(self):
        self.leads = []
        self.well = []

    def size(self):
        return len(self.leads)

    def to(self, state, column):
        return self.leads[state].get(column)

    def ends(self, state):
        return self.well[state]

    def states(self):
        return list(range(len(self.leads)))

    def ways(self, state):
        return list(self.leads[state].items())


class Machine(States):
    # What lies behind a state is its last column and the rules' memories behind that: rules look no farther back.
    def __init__(self, score):
        States.__init__(self)
        self.score = score
        beginning = (None, tuple([rule.start() for rule in score.rules]))
        self.build([beginning], {beginning: START}, columns(score))

    def build(self, met, numbers, steps):
        rules = self.score.rules
        while len(self.leads) < len(met):
            last = met[len(self.leads)][0]
            memories = met[len(self.leads)][1]
            leads = {}
            for column in steps:
                found = (column, memories_after(rules, memories, last, column))
                if found[1] is None:
                    continue
                if found not in numbers:
                    numbers[found] = len(met)
                    met.append(found)
                leads[column] = numbers[found]
            self.leads.append(leads)
            self.well.append(all_close(rules, memories, last))

    def walk(self, line):
        state = START
        for column in line:
            state = self.to(state, column)
            if state is None:
                return None
        return state
