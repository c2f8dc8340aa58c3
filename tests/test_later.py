"""Call 3: later, and promise 1: it tells what the pattern becomes in k generations, for every k."""

import unittest

from tests.helper import (ALL_STATES, BLINKER, BLOCK, BRAIN_SHIP, DIEHARD, GLIDER, LIFE, LIGHT_SHIP, MODELS, PI,
                          R_PENTOMINO, WAVE, ask_by, counted, drawn, fate, later, moved, objects_of, one_by, soup,
                          told, turned)

LATEST = 10 ** 18
FILLING = "B234/S01234V"
EXPLODING = [0, 0, 1, 0, 1, 1]


def slopes(count):
    """Four cells on a slope each: by the filling rule each becomes a square of 16."""
    return [number for i in range(count) for j in range(4) for number in (10 * i + j, j, 1)]


class LaterTest(unittest.TestCase):
    def later(self, k, plane, text="B3/S23"):
        return one_by(text, later(k, told(plane)))

    def test_now(self):
        for model in MODELS:
            for seed in range(5):
                plane = soup(seed, 3, 3, model.states)
                got = self.later(0, plane, model.text)
                self.assertEqual(got, counted(plane) if model.fate(plane) != [-7] else [-7])
        self.assertEqual(self.later(0, {}), [0])
        self.assertEqual(self.later(LATEST, {}), [0])

    def test_gone(self):
        plane = drawn("1.1/1.1/1")
        self.assertEqual(one_by("B3/S23", fate(told(plane))), [0, 3])
        self.assertEqual(self.later(2, plane), counted(LIFE.generations(plane, 2)[2]))
        for k in (3, 4, 128, 129, LATEST):
            self.assertEqual(self.later(k, plane), [0])

    def test_one_by_one(self):
        for model in MODELS:
            for seed in range(16):
                plane = soup(seed, 3 + seed % 2, 3, model.states)
                answer = one_by(model.text, fate(told(plane)))
                if answer == [-7]:
                    continue
                last = 128 if answer == [2] else 60
                run = model.generations(plane, last)
                for start in range(0, last + 1, 43):
                    numbers = range(start, min(start + 43, last + 1))
                    got = ask_by(model.text, *[later(k, told(plane)) for k in numbers])
                    self.assertEqual(got, [counted(run[k]) for k in numbers], (model.text, plane))

    def test_objects_one_by_one(self):
        for model in MODELS:
            for plane in objects_of(model, 8):
                run = model.generations(plane, 150)
                numbers = list(range(0, 30)) + [127, 128, 129, 150]
                got = ask_by(model.text, *[later(k, told(plane)) for k in numbers])
                self.assertEqual(got, [counted(run[k]) for k in numbers], (model.text, plane))

    def test_in_steps(self):
        """What's told of a + b is what's told of b, from what's told of a: also where no model reaches."""
        for model in MODELS:
            for plane in objects_of(model, 5):
                period = model.fate(plane)[2]
                got = ask_by(model.text, later(900001, told(plane)), later(900001 % period, told(plane)))
                far = got[0][1:]
                near = got[1][1:]
                dx, dy = model.fate(plane)[3:]
                rounds = 900001 // period
                wanted = [number for i in range(0, len(near), 3)
                          for number in (near[i] + rounds * dx, near[i + 1] + rounds * dy, near[i + 2])]
                self.assertEqual(far, wanted)
                if max(abs(number) for number in far) <= 1000000:
                    self.assertEqual(one_by(model.text, later(77, far)),
                                     one_by(model.text, later(900078, told(plane))))

    def test_ten_to_the_eighteenth(self):
        self.assertEqual(self.later(LATEST, BLOCK), counted(BLOCK))
        self.assertEqual(self.later(LATEST, BLINKER), counted(BLINKER))
        self.assertEqual(self.later(LATEST - 1, BLINKER), counted(LIFE.after(BLINKER)))
        quarter = LATEST // 4
        self.assertEqual(self.later(LATEST, GLIDER), counted(moved(GLIDER, quarter, quarter)))
        self.assertEqual(self.later(LATEST - 1, GLIDER),
                         counted(moved(LIFE.generations(GLIDER, 3)[3], quarter - 1, quarter - 1)))
        self.assertEqual(self.later(LATEST, LIGHT_SHIP), counted(moved(LIGHT_SHIP, -2 * quarter, 0)))
        self.assertEqual(self.later(LATEST, ALL_STATES, WAVE.text), counted(moved(ALL_STATES, LATEST, 0)))
        for t in range(8):
            ship = turned(BRAIN_SHIP, t)
            dx, dy = turned({(LATEST, 0): 1}, t).popitem()[0]
            self.assertEqual(self.later(LATEST, ship, "B2/S/3"), counted(moved(ship, dx, dy)))

    def test_tail_and_move(self):
        plane = drawn("111/..1/1")
        self.assertEqual(one_by("B3/S23", fate(told(plane))), [1, 1, 4, 1, -1])
        run = LIFE.generations(plane, 45)
        for k in range(46):
            self.assertEqual(self.later(k, plane), counted(run[k]))
        rounds = (LATEST - 1) // 4
        start = run[1 + (LATEST - 1) % 4]
        self.assertEqual(self.later(LATEST, plane), counted(moved(start, rounds, -rounds)))

    def test_tail_of_126(self):
        run = LIFE.generations(PI, 47 + 135)
        plane = run[47]
        self.assertEqual(one_by("B3/S23", fate(told(plane))), [1, 126, 2, 0, 0])
        for k in (0, 1, 125, 126, 127, 128, 129, 130, 135):
            self.assertEqual(self.later(k, plane), counted(run[47 + k]))
        self.assertEqual(self.later(LATEST, plane), counted(run[47 + 126]))

    def test_undecided(self):
        run = LIFE.generations(R_PENTOMINO, 128)
        for k in (0, 1, 2, 64, 127, 128):
            self.assertEqual(self.later(k, R_PENTOMINO), counted(run[k]))
        for k in (129, 130, 1000, LATEST):
            self.assertEqual(self.later(k, R_PENTOMINO), [-11])
        self.assertEqual(self.later(128, DIEHARD), counted(LIFE.generations(DIEHARD, 128)[128]))
        self.assertEqual(self.later(130, DIEHARD), [-11])
        gone = LIFE.generations(DIEHARD, 2)[2]
        self.assertEqual(self.later(130, gone), [0])

    def test_over_the_edge(self):
        for t in range(8):
            for x in (-999998, 999998):
                for y in (-999998, 999998):
                    plane = moved(turned(GLIDER, t), x, y)
                    run = LIFE.generations(plane, 50)
                    for k in (0, 7, 50):
                        self.assertEqual(self.later(k, plane), counted(run[k]))

    def test_far_apart(self):
        plane = {}
        for x in (-999990, 0, 999990):
            for y in (-999990, 0, 999990):
                plane.update(moved(GLIDER, x, y))
        run = LIFE.generations(plane, 21)
        self.assertEqual(self.later(21, plane), counted(run[21]))
        self.assertEqual(self.later(4 * 10 ** 17, plane), counted(moved(plane, 10 ** 17, 10 ** 17)))

    def test_many_cells(self):
        plane = {(i % 20 * 3, i // 20 * 3): 1 for i in range(400)}
        self.assertEqual(self.later(LATEST, plane, "B/S0"), counted(plane))
        self.assertEqual(self.later(1, plane, "B/S"), [0])


class RefusedTest(unittest.TestCase):
    def test_number(self):
        for k in (-1, -2, LATEST + 1, 9223372036854775807, -9223372036854775808):
            self.assertEqual(one_by("B3/S23", later(k, told(BLOCK))), [-9])

    def test_order(self):
        got = ask_by("B2/S/3", later(-1, [0, 0]), later(LATEST + 1, EXPLODING), later(0, [0, 0, 3]),
                     later(129, [0, 0, 3]), later(0, EXPLODING), later(1, EXPLODING), later(129, EXPLODING),
                     later(LATEST, EXPLODING))
        self.assertEqual(got, [[-9], [-9], [-6], [-6], [-7], [-7], [-7], [-7]])

    def test_cells_then(self):
        pattern = slopes(100)
        got = ask_by(FILLING, fate(pattern), *[later(k, pattern) for k in (0, 1, 2, 3, LATEST)])
        self.assertEqual(got[0], [1, 3, 1, 0, 0])
        self.assertEqual([answer[0] for answer in got[1:]], [400, 1000, -5, -5, -5])
        self.assertEqual([len(answer) for answer in got[1:]], [1201, 3001, 1, 1, 1])

    def test_1024_and_1025_cells_then(self):
        just = slopes(64)
        squares = {(10 * i + x, y): 1 for i in range(64) for x in range(4) for y in range(4)}
        got = ask_by(FILLING, later(LATEST, just), later(LATEST, just + [0, 90, 1]), later(0, just + [0, 90, 1]))
        self.assertEqual(got[0], counted(squares))
        self.assertEqual(got[0][0], 1024)
        self.assertEqual(got[1], [-5])
        self.assertEqual(got[2][0], 257)


if __name__ == "__main__":
    unittest.main()
