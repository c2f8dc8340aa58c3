"""Call 2: fate."""

import unittest

from tests.helper import (ALL_STATES, BEEHIVE, BLINKER, BLOCK, BRAIN, BRAIN_SHIP, DIEHARD, FIGURE_EIGHT, GLIDER, LIFE,
                          LIGHT_SHIP, MODELS, PI, PULSAR, R_PENTOMINO, TOAD, ask, ask_by, drawn, fate, move_between,
                          moved, objects_of, one_by, soup, told, turned)

# 62 generations of 322 cells, and behind them some more.
LONG_WORK = [number for i in range(322) for number in (i, 0, 2)]

# Still ones by B3/S23, of 4, 5, 6 and 7 cells.
STILLS = [BLOCK, drawn("11/1.1/.1"), BEEHIVE, drawn(".11/1..1/.1.1/..1")]


class FateTest(unittest.TestCase):
    def fate(self, plane, text="B3/S23"):
        return one_by(text, fate(told(plane)))

    def test_gone(self):
        self.assertEqual(ask(fate([])), [[0, 0]])
        self.assertEqual(self.fate(drawn("1")), [0, 1])
        self.assertEqual(self.fate(drawn("1/.1/1")), [0, 2])
        self.assertEqual(self.fate(drawn("1.1/1.1/1")), [0, 3])
        self.assertEqual(one_by("B/S/64", fate([0, 0, 1])), [0, 63])
        self.assertEqual(one_by("B/S/64", fate([0, 0, 63])), [0, 1])
        self.assertEqual(one_by("B/S/3", fate([0, 0, 1, 5, 5, 2])), [0, 2])

    def test_objects(self):
        for plane, wanted in ((BLOCK, [1, 0, 0]), (BEEHIVE, [1, 0, 0]), (BLINKER, [2, 0, 0]), (TOAD, [2, 0, 0]),
                              (PULSAR, [3, 0, 0]), (FIGURE_EIGHT, [8, 0, 0]), (GLIDER, [4, 1, 1]),
                              (LIGHT_SHIP, [4, -2, 0])):
            self.assertEqual(self.fate(plane), [1, 0] + wanted)
        self.assertEqual(self.fate(ALL_STATES, "B2/S/64"), [1, 0, 1, 1, 0])
        self.assertEqual(self.fate(BRAIN_SHIP, "B2/S/3"), [1, 0, 1, 1, 0])

    def test_tails(self):
        self.assertEqual(self.fate(drawn(".1/11")), [1, 1, 1, 0, 0])
        self.assertEqual(self.fate(drawn("111/..1/1")), [1, 1, 4, 1, -1])
        self.assertEqual(self.fate(drawn("11..1/1.1/.1..1/1..1/11")), LIFE.fate(drawn("11..1/1.1/.1..1/1..1/11")))
        self.assertEqual(one_by("B24/S03/3H", fate(told(drawn(".1/11/2")))), [1, 1, 2, 1, 1])
        self.assertEqual(one_by("B2/S013/3V", fate(told(drawn("..1/21/1.2")))), [1, 3, 3, 0, 0])

    def test_each_neighbourhood(self):
        pattern = told(drawn("111"))
        self.assertEqual(one_by("B3/S23", fate(pattern)), [1, 0, 2, 0, 0])
        self.assertEqual(one_by("B3/S23V", fate(pattern)), [0, 2])
        self.assertEqual(one_by("B3/S23H", fate(pattern)), [0, 2])
        self.assertEqual(one_by("B2/S34H", fate(told(drawn("1/11")))), [1, 0, 2, 0, 0])
        self.assertEqual(one_by("B2/S013V", fate(told(drawn(".1/11")))), [1, 0, 2, 0, 0])

    def test_only_state_one_is_counted(self):
        # Three of state 2 around a place give no birth, and two of state 1 with one of state 2 give none by B3.
        self.assertEqual(one_by("B3/S/3", fate([0, 0, 2, 1, 0, 2, 2, 0, 2])), [0, 1])
        self.assertEqual(one_by("B3/S/3", fate([0, 0, 1, 1, 0, 2, 2, 0, 1])), [0, 2])
        self.assertEqual(one_by("B/S2/3", fate([0, 0, 1, 1, 0, 1, 2, 0, 2])), [0, 2])

    def test_still_far_apart(self):
        pattern = [-1000000, -1000000, 1, 1000000, -1000000, 1, -1000000, 1000000, 1, 1000000, 1000000, 1]
        self.assertEqual(one_by("B/S0", fate(pattern)), [1, 0, 1, 0, 0])
        # Places that stand in neighbouring rows, but at opposite ends, are no neighbours.
        pattern = [1000000, 0, 1, -1000000, 1, 1]
        self.assertEqual(one_by("B/S0", fate(pattern)), [1, 0, 1, 0, 0])
        self.assertEqual(one_by("B/S1", fate(pattern)), [0, 1])

    def test_travels_over_the_edge(self):
        for t in range(8):
            for x in (-999998, 0, 999998):
                for y in (-999998, 0, 999998):
                    plane = moved(turned(GLIDER, t), x, y)
                    self.assertEqual(self.fate(plane), LIFE.fate(plane))

    def test_undecided(self):
        for plane in (R_PENTOMINO, PI, DIEHARD):
            self.assertEqual(self.fate(plane), [2])

    def test_gone_at_128_and_at_129(self):
        run = LIFE.generations(DIEHARD, 3)
        self.assertEqual(self.fate(run[3]), [0, 127])
        self.assertEqual(self.fate(run[2]), [0, 128])
        self.assertEqual(self.fate(run[1]), [2])

    def test_comes_again_at_128_and_at_129(self):
        run = LIFE.generations(PI, 48)
        self.assertEqual(self.fate(run[48]), [1, 125, 2, 0, 0])
        self.assertEqual(self.fate(run[47]), [1, 126, 2, 0, 0])
        self.assertEqual(self.fate(run[46]), [2])

    def test_work(self):
        # 36 more make 20000, 37 more make 20001.
        self.assertEqual(one_by("B/S/64", fate(LONG_WORK)), [0, 62])
        self.assertEqual(one_by("B/S/64", fate(LONG_WORK + [0, 1, 28])), [0, 62])
        self.assertEqual(one_by("B/S/64", fate(LONG_WORK + [0, 1, 27])), [-7])
        self.assertEqual(one_by("B1/S", fate([0, 0, 1])), [-7])
        self.assertEqual(one_by("B2/S/3", fate([0, 0, 1, 0, 1, 1])), [-7])

    def test_work_of_the_last_generation_is_not_counted(self):
        pattern = [number for i in range(400) for number in (3 * i, 0, 1)]
        self.assertEqual(one_by("B/S0", fate(pattern)), [1, 0, 1, 0, 0])
        still = [number for i in range(400) for number in (i, 0, 63)]
        self.assertEqual(one_by("B/S/64", fate(still)), [0, 1])
        # 50 generations of 400 cells are 20000; the 51st would be more.
        fifty = [number for i in range(400) for number in (i, 0, 14)]
        self.assertEqual(one_by("B/S/64", fate(fifty)), [0, 50])
        more = [number for i in range(400) for number in (i, 0, 13)]
        self.assertEqual(one_by("B/S/64", fate(more)), [-7])
        # 49 generations of 400 cells and one of 399 are 19999; by the next one, of 399, it's seen to come again.
        staying = [number for i in range(399) for number in (3 * i, 0, 1)]
        self.assertEqual(one_by("B/S0/64", fate(staying + [0, 9, 15])), [1, 49, 1, 0, 0])
        self.assertEqual(one_by("B/S0/64", fate(staying + [0, 9, 14])), [-7])

    def test_work_of_generation_128_is_not_counted(self):
        sizes = [len(plane) for plane in LIFE.generations(R_PENTOMINO, 128)]
        work = sum(sizes[:128])
        standing = (20000 - work) // 128
        self.assertLess(20000, work + 128 * standing + standing + sizes[128])
        for count, wanted in ((standing, [2]), (standing + 1, [-7])):
            plane = dict(R_PENTOMINO)
            stills = [STILLS[count % 4]] + [BLOCK] * (count // 4 - 1)
            for i, still in enumerate(stills):
                plane.update(moved(still, 1000 + 10 * i, 0))
            self.assertEqual(len(plane), count + len(R_PENTOMINO))
            self.assertEqual(self.fate(plane), wanted)

    def test_against_the_model(self):
        for model in MODELS:
            planes = [soup(seed, 3 + seed % 3, 4, model.states, 2 + seed % 3) for seed in range(24)]
            for plane in planes:
                got = one_by(model.text, fate(told(plane)))
                if got not in ([2], [-7]):
                    self.assertEqual(got, model.fate(plane), (model.text, plane))

    def test_against_the_model_to_the_end(self):
        seen = []
        for model in MODELS:
            for seed in (0, 1, 8, 19):
                plane = soup(seed, 4, 3, model.states)
                wanted = model.fate(plane)
                self.assertEqual(one_by(model.text, fate(told(plane))), wanted, (model.text, plane))
                seen.append(wanted[0])
        exploding = drawn("1/1")
        self.assertEqual(BRAIN.fate(exploding), [-7])
        self.assertEqual(one_by(BRAIN.text, fate(told(exploding))), [-7])
        self.assertEqual(sorted(set(seen)), [0, 1, 2])

    def test_refusal_leaves_all(self):
        got = ask_by("B2/S/3", fate([0, 0, 1, 0, 1, 1]), fate([0, 0, 3]), fate(told(BRAIN_SHIP)))
        self.assertEqual(got, [[-7], [-6], [1, 0, 1, 1, 0]])


class PeriodTest(unittest.TestCase):
    """Promise 2: no lesser number of generations brings the pattern, from its tail on, back with any move."""

    def test_period_is_the_least(self):
        for model in MODELS:
            for plane in objects_of(model, 8):
                got = one_by(model.text, fate(told(plane)))
                self.assertEqual(got[:2], [1, 0])
                run = model.generations(plane, 2 * got[2])
                for p in range(1, got[2] + 1):
                    for start in range(got[2]):
                        wanted = (got[3], got[4]) if p == got[2] else None
                        self.assertEqual(move_between(run[start], run[start + p]), wanted)

    def test_tail_is_the_least(self):
        found = 0
        for model in MODELS:
            for seed in range(30):
                plane = soup(seed, 4, 4, model.states)
                got = one_by(model.text, fate(told(plane)))
                if got[0] == 1 and 0 < got[1] < 60:
                    found += 1
                    end = got[1] + got[2]
                    run = model.generations(plane, end)
                    self.assertEqual(move_between(run[got[1]], run[end]), (got[3], got[4]))
                    self.assertIsNone(move_between(run[got[1] - 1], run[end - 1]))
                    for j in range(end):
                        for i in range(j):
                            self.assertIsNone(move_between(run[i], run[j]))
        self.assertGreater(found, 50)


if __name__ == "__main__":
    unittest.main()
