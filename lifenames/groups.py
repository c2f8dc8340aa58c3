"""Groups: the cells of a pattern that come near one another, told from those that don't."""

from lifenames.fates import MOST_WORK
from lifenames.plane import generation_after, place_at
from lifenames.refusals import TooMuchWork

REACH = 2


# Which cells of the pattern are together, by their numbers in order. Each cell leads to an earlier one of its
# group; the group's first cell leads to itself.
class Parting:
    def __init__(self, count):
        self.leads = list(range(count))

    def first_of(self, cell):
        first = cell
        while self.leads[first] != first:
            first = self.leads[first]
        return first

    def make_one(self, cell, other):
        one = self.first_of(cell)
        two = self.first_of(other)
        self.leads[max(one, two)] = min(one, two)


# The steps to the near places that come later in the order: from the others, the cell itself is seen.
def steps_ahead():
    steps = []
    for y in range(REACH + 1):
        for x in range(-REACH, REACH + 1):
            if place_at(x, y) > 0:
                steps.append(place_at(x, y))
    return steps


# Owners are kept for each odd cell of a generation: the number of a cell of the pattern that is in its group.
def join_near(parting, owners):
    steps = steps_ahead()
    for place, owner in owners.items():
        for step in steps:
            other = owners.get(place + step, owner)
            if other != owner:
                parting.make_one(owner, other)
    joined = {}
    for place, owner in owners.items():
        joined[place] = parting.first_of(owner)
    return joined


def owner_seen(rule, owners, place):
    if place in owners:
        return owners[place]
    for step in rule.steps:
        if place + step in owners:
            return owners[place + step]
    return None


def owners_after(rule, owners, pattern):
    after = {}
    for place in pattern:
        after[place] = owner_seen(rule, owners, place)
    return after


# Odd cells that one place sees are within 2 of one another, so they are of one group once the near ones are
# joined. That's why the whole pattern goes on just as its groups do, each by itself, and needs going through once.
def parting_of(rule, pattern, k):
    parting = Parting(len(pattern))
    owners = {}
    for cell, place in enumerate(pattern):
        owners[place] = cell
    owners = join_near(parting, owners)
    last = pattern
    work = 0
    for number in range(k):
        work += len(last)
        if work > MOST_WORK:
            raise TooMuchWork()
        last = generation_after(rule, last)
        owners = join_near(parting, owners_after(rule, owners, last))
    return parting


def groups_told(parting):
    numbers = {}
    told = []
    for cell in range(len(parting.leads)):
        first = parting.first_of(cell)
        if first not in numbers:
            numbers[first] = len(numbers)
        told.append(numbers[first])
    return [len(numbers)] + told
