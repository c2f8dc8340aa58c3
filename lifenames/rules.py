"""Rules: reading their texts and writing their forms."""

from lifenames.plane import place_at
from lifenames.refusals import DigitTooGreat, NotRuleText, StatesOutOfRange

SIGNS = "0123456789/BCGHMSVbcghmsv"
LIST_DIGITS = "012345678"
LETTERS = ("M", "V", "H")
LEAST_STATES = 2
MOST_STATES = 64

# For each neighbourhood's letter, where the neighbours stand, seen from the cell.
NEIGHBOURS = {
    "M": ((-1, -1), (0, -1), (1, -1), (-1, 0), (1, 0), (-1, 1), (0, 1), (1, 1)),
    "V": ((0, -1), (-1, 0), (1, 0), (0, 1)),
    "H": ((-1, -1), (0, -1), (-1, 0), (1, 0), (0, 1), (1, 1)),
}

# For each neighbourhood's letter, the turns that fit.
FITTING = {
    "M": (0, 1, 2, 3, 4, 5, 6, 7),
    "V": (0, 1, 2, 3, 4, 5, 6, 7),
    "H": (0, 2, 5, 7),
}

ENDINGS = {"M": "", "V": "V", "H": "H"}


class Rule:
    def __init__(self, births, stays, states, letter):
        self.births = tuple(sorted(births))
        self.stays = tuple(sorted(stays))
        self.states = states
        self.letter = letter
        self.steps = tuple([place_at(step[0], step[1]) for step in NEIGHBOURS[letter]])
        self.turns = FITTING[letter]


def first_rule():
    return Rule([3], [2, 3], 2, "M")


# Bytes that no rule's text can have become a sign that nothing takes.
def great_letters(row):
    signs = {}
    for sign in SIGNS:
        signs[ord(sign)] = sign
    return "".join([signs.get(byte, "?") for byte in row]).upper()


def read_list(part):
    digits = []
    for sign in part:
        if sign not in LIST_DIGITS or int(sign) in digits:
            raise NotRuleText()
        digits.append(int(sign))
    return digits


def read_states(part):
    digits = part
    if part.startswith("C") or part.startswith("G"):
        digits = part[1:]
    if not digits.isdigit() or digits.startswith("0"):
        raise NotRuleText()
    # The first digit isn't 0, so three digits are too many already; int does not take very long ones.
    return int(digits[:3])


def read_lists(parts):
    if not parts[0].startswith("B"):
        return [read_list(parts[1]), read_list(parts[0])]
    if not parts[1].startswith("S"):
        raise NotRuleText()
    return [read_list(parts[0][1:]), read_list(parts[1][1:])]


def read_rule(row):
    # No list and no ending has a / within, so the / part the text, and the letter can stand at its end alone.
    parts = great_letters(row).split("/")
    if len(parts) != 2 and len(parts) != 3:
        raise NotRuleText()
    letter = "M"
    if parts[-1][-1:] in LETTERS:
        letter = parts[-1][-1:]
        parts[-1] = parts[-1][:-1]
    lists = read_lists(parts)
    states = 2
    if len(parts) == 3:
        states = read_states(parts[2])
    if max(lists[0] + lists[1], default=0) > len(NEIGHBOURS[letter]):
        raise DigitTooGreat()
    if states < LEAST_STATES or states > MOST_STATES:
        raise StatesOutOfRange()
    return Rule(lists[0], lists[1], states, letter)


def form_of(rule):
    births = "".join([str(digit) for digit in rule.births])
    stays = "".join([str(digit) for digit in rule.stays])
    ending = ENDINGS[rule.letter]
    if rule.states == 2:
        return f"B{births}/S{stays}{ending}"
    states = rule.states
    return f"B{births}/S{stays}/C{states}{ending}"
