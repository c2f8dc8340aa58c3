"""Calls and their answers."""

from lifenames.collection import Collection
from lifenames.fates import course_of, fate_told, later_told, object_course
from lifenames.groups import groups_told, parting_of
from lifenames.names import bytes_of, name_of, read_name
from lifenames.plane import cells_told, in_order, place_at
from lifenames.refusals import BornOfNothing, NotCall, NotPattern, NumberOutOfRange, Refusal
from lifenames.rules import first_rule, form_of, read_rule
from lifenames.symmetries import kin_told, rotor_told, span_told, spins_told

FARTHEST = 1000000
MOST_CELLS = 400
LATEST = 1000000000000000000
LATEST_TOGETHER = 64
GREATEST_BYTE = 255


# What goes on from call to call.
class Line:
    def __init__(self):
        self.rule = first_rule()
        self.collection = Collection()

    def take_rule(self, rule):
        self.rule = rule
        self.collection = Collection()


# A call cut from the list: its number, its whole numbers, its rows, and the place behind it.
class Call:
    def __init__(self, number, wholes, rows, end):
        self.number = number
        self.wholes = wholes
        self.rows = rows
        self.end = end


def read_pattern(rule, row):
    if len(row) % 3 != 0 or len(row) > 3 * MOST_CELLS:
        raise NotPattern()
    cells = {}
    for at in range(0, len(row), 3):
        x = row[at]
        y = row[at + 1]
        state = row[at + 2]
        if abs(x) > FARTHEST or abs(y) > FARTHEST or state < 1 or state >= rule.states:
            raise NotPattern()
        if place_at(x, y) in cells:
            raise NotPattern()
        cells[place_at(x, y)] = state
    return in_order(cells)


def call_rule(line, call):
    rule = read_rule(call.rows[0])
    if 0 in rule.births:
        raise BornOfNothing()
    line.take_rule(rule)
    return [0]


def call_form(line, call):
    return [0] + bytes_of(form_of(line.rule))


def call_fate(line, call):
    pattern = read_pattern(line.rule, call.rows[0])
    return fate_told(course_of(line.rule, pattern))


def call_later(line, call):
    k = call.wholes[0]
    if k < 0 or k > LATEST:
        raise NumberOutOfRange()
    pattern = read_pattern(line.rule, call.rows[0])
    return later_told(course_of(line.rule, pattern), k)


def call_name(line, call):
    pattern = read_pattern(line.rule, call.rows[0])
    return [0] + bytes_of(name_of(line.rule, object_course(line.rule, pattern)))


def call_named(line, call):
    pattern = read_name(line.rule, call.rows[0])
    return [len(pattern)] + cells_told(pattern)


def call_spins(line, call):
    pattern = read_pattern(line.rule, call.rows[0])
    return spins_told(line.rule, object_course(line.rule, pattern))


def call_kin(line, call):
    # Both patterns are read before either's fate is looked at: so stands the order of the refusals.
    a = read_pattern(line.rule, call.rows[0])
    b = read_pattern(line.rule, call.rows[1])
    course = object_course(line.rule, a)
    other = object_course(line.rule, b)
    return kin_told(line.rule, course, other)


def call_rotor(line, call):
    pattern = read_pattern(line.rule, call.rows[0])
    return rotor_told(object_course(line.rule, pattern))


def call_groups(line, call):
    k = call.wholes[0]
    if k < 0 or k > LATEST_TOGETHER:
        raise NumberOutOfRange()
    pattern = read_pattern(line.rule, call.rows[0])
    return groups_told(parting_of(line.rule, pattern, k))


def call_add(line, call):
    pattern = read_pattern(line.rule, call.rows[0])
    name = name_of(line.rule, object_course(line.rule, pattern))
    return line.collection.count_in(tuple(bytes_of(name)))


def call_tallies(line, call):
    return line.collection.tallies_told()


def call_name_at(line, call):
    return line.collection.name_told(call.wholes[0])


def call_tally(line, call):
    return line.collection.tally_told(tuple(call.rows[0]))


def call_forget(line, call):
    return line.collection.forget(tuple(call.rows[0]))


def call_ranked(line, call):
    return line.collection.ranked_told()


def call_span(line, call):
    pattern = read_pattern(line.rule, call.rows[0])
    return span_told(object_course(line.rule, pattern))


# For each call's number: what answers it, how many whole numbers it has, and what its rows are.
CALLS = {
    0: (call_rule, 0, ("text",)),
    1: (call_form, 0, ()),
    2: (call_fate, 0, ("pattern",)),
    3: (call_later, 1, ("pattern",)),
    4: (call_name, 0, ("pattern",)),
    5: (call_named, 0, ("text",)),
    6: (call_spins, 0, ("pattern",)),
    7: (call_kin, 0, ("pattern", "pattern")),
    8: (call_rotor, 0, ("pattern",)),
    9: (call_groups, 1, ("pattern",)),
    10: (call_add, 0, ("pattern",)),
    11: (call_tallies, 0, ()),
    12: (call_name_at, 1, ()),
    13: (call_tally, 0, ("text",)),
    14: (call_forget, 0, ("text",)),
    15: (call_ranked, 0, ()),
    16: (call_span, 0, ("pattern",)),
}


def cut_call(calls, start):
    number = calls[start]
    if number not in CALLS:
        # How long such a call is can't be known, so all that's left is taken for it.
        return Call(number, [], [], len(calls))
    at = start + 1 + CALLS[number][1]
    wholes = calls[start + 1:at]
    rows = []
    while len(rows) < len(CALLS[number][2]):
        end = at + 1 + calls[at]
        rows.append(calls[at + 1:end])
        at = end
    return Call(number, wholes, rows, at)


def check_call(call):
    if call.number not in CALLS:
        raise NotCall()
    for kind, row in zip(CALLS[call.number][2], call.rows):
        if kind == "text" and not all([0 <= byte <= GREATEST_BYTE for byte in row]):
            raise NotCall()


def answer_to(line, call):
    try:
        check_call(call)
        answer = CALLS[call.number][0]
        return answer(line, call)
    except Refusal as refusal:
        return [refusal.number]


def answers(calls):
    line = Line()
    told = []
    at = 0
    while at < len(calls):
        call = cut_call(calls, at)
        answer = answer_to(line, call)
        told.append(len(answer))
        told.extend(answer)
        at = call.end
    return told
