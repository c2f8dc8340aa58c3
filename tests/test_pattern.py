"""What a pattern is, and when it's refused with -6: for every call that has one."""

import unittest

from tests.helper import (BLINKER, BLOCK, add, ask_by, fate, groups, kin, later, name, one_by, rotor, shuffled, span,
                          spins, told)

STILL = "B/S012345678"
STILL_64 = "B/S012345678/64"
LEAST = -9223372036854775808
GREATEST = 9223372036854775807

CALLS = [
    fate,
    lambda pattern: later(0, pattern),
    lambda pattern: later(1000000000000000000, pattern),
    name,
    spins,
    lambda pattern: kin(pattern, [0, 0, 1]),
    lambda pattern: kin([0, 0, 1], pattern),
    lambda pattern: kin(pattern, pattern),
    rotor,
    lambda pattern: groups(0, pattern),
    lambda pattern: groups(50, pattern),
    add,
    span,
]

MANY = [number for i in range(400) for number in (i % 20, i // 20, 1)]


class RefusedTest(unittest.TestCase):
    def refused(self, text, pattern):
        got = ask_by(text, *[call(pattern) for call in CALLS])
        self.assertEqual(got, [[-6]] * len(CALLS), pattern[:12])

    def taken(self, text, pattern):
        got = ask_by(text, *[call(pattern) for call in CALLS])
        for answer in got:
            self.assertNotEqual(answer, [-6], pattern[:12])

    def test_not_a_multiple_of_three(self):
        for pattern in ([0], [0, 0], [0, 0, 1, 0], [0, 0, 1, 1, 0], [1, 1, 1, 1, 1, 1, 1], MANY + [30], MANY[:-1]):
            self.refused(STILL, pattern)

    def test_places_too_far(self):
        for far in (1000001, -1000001, LEAST, GREATEST, 10000000, -10000000, 20000000):
            self.refused(STILL, [far, 0, 1])
            self.refused(STILL, [0, far, 1])
            self.refused(STILL, [0, 0, 1, far, far, 1])
            self.refused(STILL, [far, far, 1, 0, 0, 1])

    def test_places_at_the_edge(self):
        for x in (-1000000, 1000000):
            for y in (-1000000, 1000000):
                self.taken(STILL, [x, y, 1])
                self.taken(STILL, [x, 0, 1, 0, y, 1])

    def test_states(self):
        for state in (0, -1, 2, 3, LEAST, GREATEST):
            self.refused(STILL, [0, 0, state])
            self.refused(STILL, [0, 0, 1, 1, 1, state])
        for state in (0, -1, 3, 64):
            self.refused("B2/S/3", [0, 0, state])
        for state in (0, -1, 64, 65, LEAST, GREATEST):
            self.refused(STILL_64, [0, 0, state])
        for state in (1, 2, 62, 63):
            self.taken(STILL_64, [0, 0, state])

    def test_place_twice(self):
        self.refused(STILL, [0, 0, 1, 0, 0, 1])
        self.refused(STILL_64, [0, 0, 1, 0, 0, 2])
        self.refused(STILL, [5, 7, 1, 0, 0, 1, 5, 7, 1])
        self.refused(STILL, [-1000000, 1000000, 1, 1000000, -1000000, 1, -1000000, 1000000, 1])
        self.refused(STILL, MANY[:-3] + [0, 0, 1])

    def test_number_of_cells(self):
        self.taken(STILL, [])
        self.taken(STILL, MANY)
        self.refused(STILL, MANY + [20, 20, 1])
        self.refused(STILL, [number for i in range(1000) for number in (i, -i, 1)])

    def test_no_cells(self):
        got = ask_by(STILL, *[call([]) for call in CALLS])
        self.assertEqual(got, [[0, 0], [0], [0]] + [[-10]] * 6 + [[0], [0], [-10], [-10]])

    def test_refused_by_the_rule_that_holds(self):
        got = ask_by("B2/S/3", fate([0, 0, 2]), [0, 6] + list(b"B3/S23"), fate([0, 0, 2]), fate([0, 0, 1]))
        self.assertEqual(got, [[0, 1], [0], [-6], [0, 1]])


class OrderOfCellsTest(unittest.TestCase):
    def test_any_order_of_cells(self):
        for plane in (BLOCK, BLINKER):
            pattern = told(plane)
            for seed in range(5):
                other = shuffled(pattern, seed)
                for call in CALLS:
                    self.assertEqual(one_by("B3/S23", call(other)), one_by("B3/S23", call(pattern)))

    def test_cells_are_told_by_y_then_x(self):
        pattern = [3, -2, 1, -3, -2, 2, 0, 5, 3, -1000000, 1000000, 4, 1000000, -1000000, 5, 3, 5, 6, -3, 5, 7]
        wanted = [1000000, -1000000, 5, -3, -2, 2, 3, -2, 1, -3, 5, 7, 0, 5, 3, 3, 5, 6, -1000000, 1000000, 4]
        for seed in range(5):
            self.assertEqual(one_by(STILL_64, later(0, shuffled(pattern, seed))), [7] + wanted)


if __name__ == "__main__":
    unittest.main()
