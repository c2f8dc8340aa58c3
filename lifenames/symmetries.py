"""Symmetries of objects in place and time, and the places that objects take."""

from lifenames.fates import phases_of
from lifenames.plane import first_place, shape_of, turned, x_of, y_of
from lifenames.refusals import Travels


# No two phases have one shape: the period would be less.
def spins_told(rule, course):
    phases = phases_of(course)
    numbers = {}
    for i, phase in enumerate(phases):
        numbers[shape_of(phase)] = i
    told = [0]
    for turn in range(8):
        if turn in rule.turns:
            told.append(numbers.get(shape_of(turned(phases[0], turn)), -1))
        else:
            told.append(-1)
    return told


def kin_told(rule, course, other):
    wanted = other.generations[0]
    shape = shape_of(wanted)
    for i, phase in enumerate(phases_of(course)):
        if len(phase) == len(wanted):
            for turn in rule.turns:
                candidate = turned(phase, turn)
                if shape_of(candidate) == shape:
                    move = first_place(wanted) - first_place(candidate)
                    return [1, i, turn, x_of(move), y_of(move)]
    return [0]


def rotor_told(course):
    if course.move != 0:
        raise Travels()
    phases = phases_of(course)
    touched = {}
    for phase in phases:
        touched.update(phase)
    steady = 0
    for place, state in phases[0].items():
        if all([phase.get(place, 0) == state for phase in phases]):
            steady += 1
    return [steady, len(touched) - steady]


def span_told(course):
    across = []
    down = []
    for phase in phases_of(course):
        across.extend([x_of(place) for place in phase])
        down.extend([y_of(place) for place in phase])
    return [0, min(across), min(down), max(across), max(down)]
