"""Patterns on the plane without end.

A place (x, y) is kept as the one number y * WIDE + x. No x met here comes near HALF: a pattern's places are
within a million, its generations stay within 128 of these, and the move between two patterns is the difference
of two such places. So places as numbers have the order by y, then by x; a move is one number that is added;
and x and y are read back from a place or a move.

A pattern is a dict from the places of its odd cells to their states, with the places going up.
"""

WIDE = 10000000
HALF = 5000000

# Where each turn takes (1, 0) and (0, 1); these two say where it takes every place.
TURNS = (
    ((1, 0), (0, 1)),
    ((0, 1), (-1, 0)),
    ((-1, 0), (0, -1)),
    ((0, -1), (1, 0)),
    ((-1, 0), (0, 1)),
    ((0, -1), (-1, 0)),
    ((1, 0), (0, -1)),
    ((0, 1), (1, 0)),
)


def place_at(x, y):
    return y * WIDE + x


def x_of(place):
    return (place + HALF) % WIDE - HALF


def y_of(place):
    return (place + HALF) // WIDE


def in_order(cells):
    pattern = {}
    for place in sorted(cells):
        pattern[place] = cells[place]
    return pattern


def first_place(pattern):
    for place in pattern:
        return place
    return None


# Two patterns have one shape just if one is the other but for a move: a move keeps the order of the cells.
def shape_of(pattern):
    first = first_place(pattern)
    return tuple([(place - first, state) for place, state in pattern.items()])


def turned_place(place, turn):
    right = TURNS[turn][0]
    down = TURNS[turn][1]
    return x_of(place) * place_at(right[0], right[1]) + y_of(place) * place_at(down[0], down[1])


def turned(pattern, turn):
    cells = {}
    for place, state in pattern.items():
        cells[turned_place(place, turn)] = state
    return in_order(cells)


def cells_told(pattern):
    told = []
    for place, state in pattern.items():
        told.extend([x_of(place), y_of(place), state])
    return told


# Each cell of state 1 is counted at its neighbours; that's the same as looking from there, since every
# neighbourhood has with a step also the step back.
def ones_near(rule, pattern):
    counts = {}
    for place, state in pattern.items():
        if state == 1:
            for step in rule.steps:
                near = place + step
                counts[near] = counts.get(near, 0) + 1
    return counts


def state_after(rule, state, ones):
    if state == 1 and ones in rule.stays:
        return 1
    return (state + 1) % rule.states


def generation_after(rule, pattern):
    counts = ones_near(rule, pattern)
    cells = {}
    for place, state in pattern.items():
        after = state_after(rule, state, counts.get(place, 0))
        if after != 0:
            cells[place] = after
    # A cell of state 0 that sees no 1 needs no look: 0 is never among the births.
    for place, ones in counts.items():
        if ones in rule.births and place not in pattern:
            cells[place] = 1
    return in_order(cells)
