"""What the tests share: laying calls, parting answers, and a plain model of the plane to reckon against.

The model follows the document's words cell by cell and shares nothing with the program: a plane is a dict from
(x, y) to a state that isn't 0.
"""

import random

from lifenames.objects import answers

(RULE, FORM, FATE, LATER, NAME, NAMED, SPINS, KIN, ROTOR, GROUPS, ADD, TALLIES, NAME_AT, TALLY, FORGET, RANKED,
 SPAN) = range(17)

EIGHT = [(-1, -1), (0, -1), (1, -1), (-1, 0), (1, 0), (-1, 1), (0, 1), (1, 1)]
FOUR = [(0, -1), (-1, 0), (1, 0), (0, 1)]
SIX = [(-1, -1), (0, -1), (-1, 0), (1, 0), (0, 1), (1, 1)]

SIGNS = "." + "123456789" + "abcdefghijklmnopqrstuvwxyz" + "ABCDEFGHIJKLMNOPQRSTUVWXYZ" + "+-"

TURN = [
    lambda x, y: (x, y),
    lambda x, y: (-y, x),
    lambda x, y: (-x, -y),
    lambda x, y: (y, -x),
    lambda x, y: (-x, y),
    lambda x, y: (-y, -x),
    lambda x, y: (x, -y),
    lambda x, y: (y, x),
]


# Laying calls.

def row(numbers):
    numbers = list(numbers.encode("latin-1")) if isinstance(numbers, str) else list(numbers)
    return [len(numbers)] + numbers


def rule(text):
    return [RULE] + row(text)


def form():
    return [FORM]


def fate(pattern):
    return [FATE] + row(pattern)


def later(k, pattern):
    return [LATER, k] + row(pattern)


def name(pattern):
    return [NAME] + row(pattern)


def named(text):
    return [NAMED] + row(text)


def spins(pattern):
    return [SPINS] + row(pattern)


def kin(a, b):
    return [KIN] + row(a) + row(b)


def rotor(pattern):
    return [ROTOR] + row(pattern)


def groups(k, pattern):
    return [GROUPS, k] + row(pattern)


def add(pattern):
    return [ADD] + row(pattern)


def tallies():
    return [TALLIES]


def name_at(i):
    return [NAME_AT, i]


def tally(text):
    return [TALLY] + row(text)


def forget(text):
    return [FORGET] + row(text)


def ranked():
    return [RANKED]


def span(pattern):
    return [SPAN] + row(pattern)


def ask(*calls):
    """The answers to these calls on one line, parted."""
    told = answers([number for call in calls for number in call])
    parted = []
    while told:
        parted.append(told[1:1 + told[0]])
        told = told[1 + told[0]:]
    assert len(parted) == len(calls), (parted, len(calls))
    return parted


def ask_by(text, *calls):
    """The answers by the rule of this text."""
    parted = ask(rule(text), *calls)
    assert parted[0] == [0], (text, parted[0])
    return parted[1:]


def one_by(text, call):
    return ask_by(text, call)[0]


def text_of(answer):
    """The text of an answer that's 0 and bytes."""
    assert answer[0] == 0, answer
    return bytes(answer[1:]).decode("ascii")


# The model.

class Model:
    def __init__(self, text, births, stays, states=2, around=EIGHT):
        self.text = text
        self.births = births
        self.stays = stays
        self.states = states
        self.around = around
        self.turns = [0, 2, 5, 7] if around is SIX else list(range(8))

    def next_state(self, plane, x, y):
        state = plane.get((x, y), 0)
        k = len([1 for dx, dy in self.around if plane.get((x + dx, y + dy), 0) == 1])
        if state == 0:
            return 1 if k in self.births else 0
        if state == 1:
            return 1 if k in self.stays else 2 % self.states
        return (state + 1) % self.states

    def after(self, plane):
        looked_at = {(x + dx, y + dy) for x, y in plane for dx in (-1, 0, 1) for dy in (-1, 0, 1)}
        new = {place: self.next_state(plane, *place) for place in looked_at}
        return {place: state for place, state in new.items() if state != 0}

    def generations(self, plane, count):
        """Generations 0 to count."""
        run = [plane]
        while len(run) <= count:
            run.append(self.after(run[-1]))
        return run

    def fate(self, plane):
        """What fate must answer."""
        run = []
        work = 0
        for j in range(129):
            if not plane:
                return [0, j]
            for i, earlier in enumerate(run):
                move = move_between(earlier, plane)
                if move is not None:
                    return [1, i, j - i, move[0], move[1]]
            run.append(plane)
            if j < 128:
                work += len(plane)
                if work > 20000:
                    return [-7]
                plane = self.after(plane)
        return [2]

    def phases(self, plane):
        told = self.fate(plane)
        assert told[:2] == [1, 0], told
        return self.generations(plane, told[2] - 1)

    def callings(self, plane):
        told = self.fate(plane)
        found = []
        for phase in self.phases(plane):
            for t in self.turns:
                dx, dy = TURN[t](told[3], told[4])
                start = str(told[2]) if (dx, dy) == (0, 0) else f"{told[2]},{dx},{dy}"
                found.append(start + ":" + drawing(turned(phase, t)))
        return found

    def name(self, plane):
        return min(self.callings(plane), key=lambda text: (len(text), text.encode()))

    def parted(self, plane, k):
        """The groups for k, each as a plane: the cells it has at first, in the order of their first cells."""
        parted = joined([({place: plane[place]}, {place: plane[place]}) for place in plane])
        for _ in range(k):
            parted = joined([(start, self.after(alone)) for start, alone in parted])
        order = {place: number for number, place in enumerate(in_order(plane))}
        return sorted([start for start, _ in parted], key=lambda start: min(order[place] for place in start))

    def groups(self, plane, k):
        """What groups must answer, where it isn't too much work."""
        parted = self.parted(plane, k)
        numbers = {place: number for number, start in enumerate(parted) for place in start}
        return [len(parted)] + [numbers[place] for place in in_order(plane)]

    def span(self, plane):
        places = [place for phase in self.phases(plane) for place in phase]
        across = [x for x, y in places]
        down = [y for x, y in places]
        return [0, min(across), min(down), max(across), max(down)]


LIFE = Model("B3/S23", [3], [2, 3])
BRAIN = Model("B2/S/3", [2], [], 3)
HEX = Model("B2/S34H", [2], [3, 4], 2, SIX)
CROSS = Model("B2/S013V", [2], [0, 1, 3], 2, FOUR)
STAR = Model("B2/S345/C4", [2], [3, 4, 5], 4)
WAVE = Model("B2/S/C64", [2], [], 64)
HEX_STATES = Model("B24/S03/C3H", [2, 4], [0, 3], 3, SIX)
CROSS_STATES = Model("B2/S013/C3V", [2], [0, 1, 3], 3, FOUR)

MODELS = [LIFE, BRAIN, HEX, CROSS, STAR, WAVE, HEX_STATES, CROSS_STATES]


def near(plane, other):
    return any(abs(x - u) <= 2 and abs(y - v) <= 2 for x, y in plane for u, v in other)


def joined(parted):
    """Groups that are near made one: each is what it was at first, and what it is now."""
    apart = []
    for start, now in parted:
        others = [group for group in apart if near(group[1], now)]
        apart = [group for group in apart if group not in others]
        start = dict(start)
        now = dict(now)
        for group in others:
            assert not set(now) & set(group[1])
            start.update(group[0])
            now.update(group[1])
        apart.append((start, now))
    return apart


def plane_of(pattern):
    return {(pattern[i], pattern[i + 1]): pattern[i + 2] for i in range(0, len(pattern), 3)}


def in_order(plane):
    return sorted(plane, key=lambda place: (place[1], place[0]))


def told(plane):
    """The plane's cells told."""
    return [number for x, y in in_order(plane) for number in (x, y, plane[(x, y)])]


def counted(plane):
    return [len(plane)] + told(plane)


def moved(plane, dx, dy):
    return {(x + dx, y + dy): state for (x, y), state in plane.items()}


def turned(plane, t):
    return {TURN[t](x, y): state for (x, y), state in plane.items()}


def corner(plane):
    return min(x for x, y in plane), min(y for x, y in plane)


def move_between(plane, other):
    """The move that takes the one to the other, or None."""
    if len(plane) != len(other):
        return None
    if not plane:
        return (0, 0)
    dx = corner(other)[0] - corner(plane)[0]
    dy = corner(other)[1] - corner(plane)[1]
    return (dx, dy) if moved(plane, dx, dy) == other else None


def drawing(plane):
    left = min(x for x, y in plane)
    rows = []
    for y in range(min(y for x, y in plane), max(y for x, y in plane) + 1):
        across = [x for x, other in plane if other == y]
        last = max(across) if across else left - 1
        rows.append("".join(SIGNS[plane.get((x, y), 0)] for x in range(left, last + 1)))
    return "/".join(rows)


def drawn(text, x=0, y=0):
    """The plane that's drawn in the text, the first sign at (x, y)."""
    plane = {}
    for j, line in enumerate(text.split("/")):
        for i, sign in enumerate(line):
            if sign != ".":
                plane[(x + i, y + j)] = SIGNS.index(sign)
    return plane


def soup(seed, width, height, states=2, share=3):
    """A plane of which about one cell in share is odd: the same one for the same arguments."""
    source = random.Random(f"{seed} {width} {height} {states} {share}")
    plane = {}
    for x in range(width):
        for y in range(height):
            if source.randrange(share) == 0:
                plane[(x, y)] = source.randrange(1, states)
    return plane


def settled(model, plane):
    """The object that the plane becomes, as it is when it's first met, or None."""
    run = []
    while plane and len(plane) <= 100 and len(run) < 60:
        for earlier in run:
            if move_between(earlier, plane) is not None:
                return earlier
        run.append(plane)
        plane = model.after(plane)
    return None


def objects_of(model, count):
    """Objects by the model's rule that differ in more than a move."""
    found = []
    if model is WAVE:
        found.append(ALL_STATES)
    for seed in range(150):
        if len(found) == count:
            break
        plane = settled(model, soup(seed, 4 + seed % 2, 4, model.states))
        if plane and all(move_between(plane, other) is None for other in found):
            found.append(plane)
    return found


def shuffled(pattern, seed=1):
    """The same pattern with its cells in another order."""
    cells = [pattern[i:i + 3] for i in range(0, len(pattern), 3)]
    random.Random(seed).shuffle(cells)
    return [number for cell in cells for number in cell]


# Patterns that are well known by B3/S23.

BLOCK = drawn("11/11")
BLINKER = drawn("111")
GLIDER = {(1, 0): 1, (2, 1): 1, (0, 2): 1, (1, 2): 1, (2, 2): 1}
TOAD = drawn(".111/111")
BEEHIVE = drawn(".11/1..1/.11")
LIGHT_SHIP = drawn(".1..1/1/1...1/1111")
R_PENTOMINO = drawn(".11/11/.1")
PI = drawn("111/1.1/1.1")
DIEHARD = drawn("......1/11/.1...111")
FIGURE_EIGHT = drawn("111/111/111/...111/...111/...111")
PULSAR = drawn("..111...111//1....1.1....1/1....1.1....1/1....1.1....1/..111...111//"
               "..111...111/1....1.1....1/1....1.1....1/1....1.1....1//..111...111")

# By B2/S/C64 a front of two that leaves every other state behind it, and by B2/S/3 one that leaves one.
ALL_STATES = {(-i, y): i + 1 for i in range(63) for y in (0, 1)}
BRAIN_SHIP = drawn("21/21")
