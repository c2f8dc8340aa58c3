"""Names of objects: writing them, and reading them back."""

from lifenames.fates import object_course, phases_of
from lifenames.plane import place_at, turned, turned_place, x_of, y_of
from lifenames.refusals import NotName, Refusal, TooWideToName

SIGNS = ".123456789abcdefghijklmnopqrstuvwxyzABCDEFGHIJKLMNOPQRSTUVWXYZ+-"
MOST_DIFFERENCE = 63
MOST_BYTES = 4400


def bytes_of(text):
    return [ord(sign) for sign in text]


def drawing_of(pattern):
    left = min([x_of(place) for place in pattern])
    y = None
    x = left
    pieces = []
    for place, state in pattern.items():
        if y is not None and y_of(place) > y:
            pieces.append("/" * (y_of(place) - y))
            x = left
        pieces.append("." * (x_of(place) - x))
        pieces.append(SIGNS[state])
        x = x_of(place) + 1
        y = y_of(place)
    return "".join(pieces)


def calling_of(pattern, period, move):
    drawing = drawing_of(pattern)
    if move == 0:
        return f"{period}:{drawing}"
    dx = x_of(move)
    dy = y_of(move)
    return f"{period},{dx},{dy}:{drawing}"


def is_too_wide(pattern):
    across = [x_of(place) for place in pattern]
    down = [y_of(place) for place in pattern]
    return max(across) - min(across) > MOST_DIFFERENCE or max(down) - min(down) > MOST_DIFFERENCE


def length_then_bytes(text):
    return (len(text), text)


def name_of(rule, course):
    phases = phases_of(course)
    for phase in phases:
        if is_too_wide(phase):
            raise TooWideToName()
    callings = []
    for turn in rule.turns:
        move = turned_place(course.move, turn)
        for phase in phases:
            callings.append(calling_of(turned(phase, turn), course.period, move))
    return min(callings, key=length_then_bytes)


def states_by_sign(rule):
    states = {}
    for state in range(rule.states):
        states[ord(SIGNS[state])] = state
    return states


# The pattern that stands behind the first colon, whether or not the text is a name.
def read_drawing(rule, row):
    if len(row) > MOST_BYTES or ord(":") not in row:
        raise NotName()
    states = states_by_sign(rule)
    pattern = {}
    x = 0
    y = 0
    for byte in row[row.index(ord(":")) + 1:]:
        if byte == ord("/"):
            x = 0
            y += 1
        elif byte in states:
            if states[byte] != 0:
                pattern[place_at(x, y)] = states[byte]
            x += 1
        else:
            raise NotName()
    return pattern


def read_name(rule, row):
    pattern = read_drawing(rule, row)
    try:
        name = name_of(rule, object_course(rule, pattern))
    except Refusal:
        raise NotName() from None
    if bytes_of(name) != row:
        raise NotName()
    return pattern
