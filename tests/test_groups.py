"""Call 9: groups, and promise 5: for k + 1 generations a pattern goes on as its groups would, each alone."""

import unittest

from tests.helper import (ALL_STATES, BLINKER, BLOCK, BRAIN, BRAIN_SHIP, CROSS, GLIDER, HEX, LIFE, MODELS,
                          R_PENTOMINO, WAVE, ask, ask_by, drawn, groups, in_order, moved, near, one_by, rule, shuffled,
                          soup, told)

STILL = "B/S012345678"
EXPLODING = [0, 0, 1, 0, 1, 1]
GREATEST = 9223372036854775807


def together(*planes):
    whole = {}
    for plane in planes:
        assert not set(whole) & set(plane)
        whole.update(plane)
    return whole


def scattered(model, seed, apart=6):
    """Some small soups that stand apart."""
    parts = [moved(soup(f"{seed} {i}", 3, 3, model.states, 2), apart * (i % 3) + i // 3, apart * (i // 3) - i % 2)
             for i in range(6)]
    return together(*parts)


class Asking(unittest.TestCase):
    def groups(self, k, plane, text="B3/S23"):
        return one_by(text, groups(k, told(plane)))


class GroupsTest(Asking):
    def test_no_cells(self):
        for text in ("B3/S23", "B2/S/3", "B1/SH", "B1/SV"):
            for k in (0, 1, 64):
                self.assertEqual(self.groups(k, {}, text), [0])

    def test_one_cell(self):
        for text in ("B3/S23", STILL, "B/S/64", "B1/SH", "B2/S013V"):
            for k in (0, 1, 20):
                self.assertEqual(self.groups(k, {(7, -7): 1}, text), [1, 0])

    def test_two_and_three_apart(self):
        for dx in range(-4, 5):
            for dy in range(-4, 5):
                if (dx, dy) != (0, 0):
                    wanted = [1, 0, 0] if abs(dx) <= 2 and abs(dy) <= 2 else [2, 0, 1]
                    for text in (STILL, "B/S01234V", "B/S0123456H", "B/S/64"):
                        for k in (0, 9):
                            self.assertEqual(self.groups(k, {(5, 5): 1, (5 + dx, 5 + dy): 1}, text), wanted)

    def test_near_only_later(self):
        lying = together(BLINKER, moved(BLINKER, 0, 4))
        self.assertEqual(self.groups(0, lying), [2, 0, 0, 0, 1, 1, 1])
        self.assertEqual(self.groups(1, lying), [1, 0, 0, 0, 0, 0, 0])
        side_by_side = together(drawn("1/1/1"), drawn("1/1/1", 4))
        self.assertEqual(self.groups(0, side_by_side), [2, 0, 1, 0, 1, 0, 1])
        self.assertEqual(self.groups(1, side_by_side), [1, 0, 0, 0, 0, 0, 0])

    def test_glider_and_block(self):
        plane = together(GLIDER, moved(BLOCK, 12, 11))
        run = LIFE.generations(GLIDER, 64)
        first = [k for k in range(65) if near(run[k], moved(BLOCK, 12, 11))][0]
        self.assertGreater(first, 25)
        for k in (0, 1, first - 2, first - 1):
            self.assertEqual(self.groups(k, plane), [2, 0, 0, 0, 0, 0, 1, 1, 1, 1])
        for k in (first, first + 1, 64):
            self.assertEqual(self.groups(k, plane), [1] + [0] * 9)

    def test_once_one_always_one(self):
        # The two fronts part from one another; what was one group stays one.
        plane = together(BRAIN_SHIP, drawn("12/12", -4))
        self.assertEqual(self.groups(64, plane, BRAIN.text), [2, 0, 0, 1, 1, 0, 0, 1, 1])
        plane = together(BRAIN_SHIP, drawn("12/12", -3))
        for k in (0, 1, 64):
            self.assertEqual(self.groups(k, plane, BRAIN.text), [1] + [0] * 8)

    def test_through_a_third(self):
        self.assertEqual(self.groups(0, drawn("1...1")), [2, 0, 1])
        self.assertEqual(self.groups(0, drawn("1.1.1")), [1, 0, 0, 0])
        chain = {(2 * i, -2 * i): 1 for i in range(400)}
        self.assertEqual(self.groups(0, chain), [1] + [0] * 400)
        self.assertEqual(self.groups(0, {(3 * i, -2 * i): 1 for i in range(400)}), [400] + list(range(400)))

    def test_through_a_third_later(self):
        apart = together(BLINKER, moved(BLINKER, 0, 8))
        between = moved(BLINKER, 0, 4)
        for k in (0, 1, 64):
            self.assertEqual(self.groups(k, apart), [2, 0, 0, 0, 1, 1, 1])
        self.assertEqual(self.groups(0, together(apart, between)), [3, 0, 0, 0, 1, 1, 1, 2, 2, 2])
        self.assertEqual(self.groups(1, together(apart, between)), [1] + [0] * 9)

    def test_a_row_that_grows_one_by_one(self):
        # Each of them is near the next one only at its other phase: all at once one group.
        row = together(*[moved(BLINKER, 0, 4 * i) for i in range(40)])
        self.assertEqual(self.groups(0, row), [40] + [i // 3 for i in range(120)])
        self.assertEqual(self.groups(1, row), [1] + [0] * 120)

    def test_a_group_that_dies(self):
        way = LIFE.generations(GLIDER, 40)[24]
        spot = max(way, key=lambda place: place[0] + place[1])
        dying = together(GLIDER, {spot: 1})
        staying = together(GLIDER, moved(BLOCK, *spot))
        self.assertFalse(near(GLIDER, {spot: 1}))
        for k in (0, 1, 24, 40, 64):
            self.assertEqual(self.groups(k, dying), [2, 0, 0, 0, 0, 0, 1])
        self.assertEqual(self.groups(40, staying)[0], 1)

    def test_all_die(self):
        plane = {(3 * i, 0): 1 for i in range(5)}
        for k in (0, 1, 2, 64):
            self.assertEqual(self.groups(k, plane), [5, 0, 1, 2, 3, 4])

    def test_dying_cells_are_odd_cells(self):
        # A cell of state 2 or more still makes near; once it's 0 it does no longer.
        for state, k, wanted in ((1, 0, 2), (1, 1, 1), (1, 20, 1), (2, 0, 2), (2, 1, 2), (2, 20, 2)):
            plane = together(BRAIN_SHIP, {(4, 0): state})
            self.assertEqual(self.groups(k, plane, BRAIN.text)[0], wanted, (state, k))
        for state in range(1, 64):
            # The front is near the cell 8 generations later.
            plane = together(ALL_STATES, {(10, 0): state})
            self.assertEqual(self.groups(7, plane, WAVE.text)[0], 2)
            self.assertEqual(self.groups(8, plane, WAVE.text)[0], 1 if state + 8 < 64 else 2, state)

    def test_numbers_go_by_first_cells(self):
        left = {(0, 0): 1, (0, 2): 1, (0, 4): 1}
        right = {(10, 1): 1, (10, 3): 1}
        early = {(20, -1): 1}
        self.assertEqual(self.groups(0, together(left, right)), [2, 0, 1, 0, 1, 0])
        self.assertEqual(self.groups(0, together(left, right, early)), [3, 0, 1, 2, 1, 2, 1])
        # The group of the last cells has the second cell, too, by a bridge.
        plane = {(0, 0): 1, (9, 0): 1, (4, 1): 1, (9, 2): 1, (8, 4): 1, (0, 5): 1}
        self.assertEqual(self.groups(0, plane), [4, 0, 1, 2, 1, 1, 3])

    def test_order_in_which_cells_are_handed_in(self):
        plane = scattered(LIFE, 1)
        for k in (0, 1, 7):
            wanted = self.groups(k, plane)
            for seed in range(6):
                self.assertEqual(ask(groups(k, shuffled(told(plane), seed)))[0], wanted)

    def test_far_places(self):
        corners = [(x, y) for y in (-1000000, 1000000) for x in (-1000000, 1000000)]
        plane = {place: 1 for place in corners}
        for text in (STILL, "B/S0V", "B/S0H", "B/S/3", "B1/SV"):
            for k in (0, 1, 8):
                self.assertEqual(self.groups(k, plane, text), [4, 0, 1, 2, 3])
        # Rows that stand below one another are near, but not at opposite ends.
        self.assertEqual(self.groups(9, {(1000000, 0): 1, (-1000000, 1): 1}, STILL), [2, 0, 1])
        for x, y in corners:
            for dx, dy, wanted in ((2, 2, [1, 0, 0]), (3, 0, [2, 0, 1]), (0, 3, [2, 0, 1])):
                other = (x - dx if x > 0 else x + dx, y - dy if y > 0 else y + dy)
                self.assertEqual(self.groups(5, {(x, y): 1, other: 1}, STILL), wanted)

    def test_over_the_edge(self):
        for dx in (-1000000, 999997):
            for dy in (-1000000, 999994):
                plane = moved(together(BLINKER, moved(BLINKER, 0, 4)), dx, dy)
                self.assertEqual(self.groups(0, plane), [2, 0, 0, 0, 1, 1, 1])
                self.assertEqual(self.groups(1, plane), [1] + [0] * 6)

    def test_each_neighbourhood(self):
        # Both grow by a row and a column in each generation, but only where the neighbourhood has a step that way.
        plane = {(0, 0): 1, (4, -4): 1}
        self.assertEqual([self.groups(k, plane, "B1/S012345678")[0] for k in (0, 1)], [2, 1])
        self.assertEqual([self.groups(k, plane, "B1/S0123456H")[0] for k in (0, 1, 2)], [2, 2, 1])
        self.assertEqual([self.groups(k, plane, "B1/S01234V")[0] for k in (0, 1, 2)], [2, 2, 1])
        slope = {(0, 0): 1, (4, 4): 1}
        self.assertEqual([self.groups(k, slope, "B1/S0123456H")[0] for k in (0, 1)], [2, 1])


class ModelTest(Asking):
    def test_against_the_model(self):
        counts = []
        for model in MODELS:
            for seed in range(6):
                plane = scattered(model, seed, 5 + 2 * seed)
                for k in (0, 1, 2, 5):
                    wanted = model.groups(plane, k)
                    self.assertEqual(self.groups(k, plane, model.text), wanted, (model.text, k, plane))
                    counts.append((k, wanted[0]))
        for k in (0, 1, 2, 5):
            self.assertGreater(len({count for other, count in counts if other == k}), 1)

    def test_against_the_model_at_64(self):
        for plane in (scattered(LIFE, 7), together(GLIDER, moved(R_PENTOMINO, 20, 4), moved(BLOCK, -9, 0))):
            for k in (13, 63, 64):
                self.assertEqual(self.groups(k, plane), LIFE.groups(plane, k))

    def test_greater_k_is_coarser(self):
        for model in MODELS:
            plane = scattered(model, 11)
            before = None
            for k in range(12):
                answer = self.groups(k, plane, model.text)
                self.assertEqual(sorted(set(answer[1:])), list(range(answer[0])))
                if before is not None:
                    pairs = set(zip(before[1:], answer[1:]))
                    self.assertEqual(len(pairs), before[0])
                before = answer


class AloneTest(Asking):
    """Promise 5."""

    def parted(self, k, plane, text):
        answer = self.groups(k, plane, text)
        parted = [{} for _ in range(answer[0])]
        for place, number in zip(in_order(plane), answer[1:]):
            parted[number][place] = plane[place]
        return parted

    def test_goes_on_as_its_groups_do(self):
        several = 0
        for model in MODELS:
            for seed in range(4):
                plane = scattered(model, 20 + seed)
                for k in (0, 1, 4):
                    parted = self.parted(k, plane, model.text)
                    several += len(parted) > 1
                    whole = model.generations(plane, k + 1)
                    alone = [model.generations(group, k + 1) for group in parted]
                    for g in range(k + 2):
                        self.assertEqual(together(*[run[g] for run in alone]), whole[g], (model.text, k, g))
        self.assertGreater(several, 20)

    def test_goes_on_as_its_groups_do_for_65(self):
        for model, plane in ((LIFE, together(GLIDER, moved(BLOCK, 12, 12), moved(BLINKER, -5, 3))),
                             (HEX, scattered(HEX, 3)), (CROSS, scattered(CROSS, 3))):
            for k in (20, 64):
                alone = [model.generations(group, k + 1) for group in self.parted(k, plane, model.text)]
                whole = model.generations(plane, k + 1)
                for g in range(k + 2):
                    self.assertEqual(together(*[run[g] for run in alone]), whole[g])

    def test_kept_apart_for_as_long_as_it_can_be_seen(self):
        # By B2 two cells that differ by 2 make a third: were they two groups, each alone would make none.
        for dx in range(1, 5):
            plane = {(0, 0): 1, (dx, 0): 1}
            after = CROSS.after(plane)
            alone = together(*[CROSS.after(group) for group in self.parted(0, plane, CROSS.text)])
            self.assertEqual(after, alone)
        self.assertEqual(self.groups(0, {(0, 0): 1, (2, 0): 1}, CROSS.text), [1, 0, 0])


class RefusedTest(Asking):
    def test_number(self):
        for k in (-1, 65, -2, 66, 128, GREATEST, -GREATEST - 1):
            self.assertEqual(self.groups(k, BLOCK), [-9])
            self.assertEqual(self.groups(k, {}), [-9])
        for k in (0, 64):
            self.assertEqual(self.groups(k, BLOCK), [1, 0, 0, 0, 0])

    def test_order(self):
        bad = EXPLODING + [0]
        got = ask_by("B2/S/3", groups(-1, bad), groups(65, bad), groups(65, EXPLODING), groups(64, bad), groups(0, bad),
                     groups(64, EXPLODING), groups(0, EXPLODING), groups(0, [0, 0, 3]), groups(64, [0, 0, 1, 0, 0, 1]))
        self.assertEqual(got, [[-9], [-9], [-9], [-6], [-6], [-7], [1, 0, 0], [-6], [-6]])

    def test_work_of_still_cells(self):
        # 400 cells in each: before the 50th generation the sum is 20000, before the 51st it's 20400.
        plane = {(3 * i, 0): 1 for i in range(400)}
        wanted = [400] + list(range(400))
        for k in (0, 1, 49, 50):
            self.assertEqual(self.groups(k, plane, "B/S0"), wanted)
        for k in (51, 52, 64):
            self.assertEqual(self.groups(k, plane, "B/S0"), [-7])
        # 64 times 312 are 19968, 64 times 313 are 20032.
        for count, answer in ((312, [312] + list(range(312))), (313, [-7])):
            few = {(3 * i, 0): 1 for i in range(count)}
            self.assertEqual(self.groups(64, few, "B/S0"), answer)
            self.assertEqual(self.groups(63, few, "B/S0")[0], count)

    def test_work_at_20000_and_20001(self):
        # 62 generations of 322 cells, and 36 or 37 more of one that's there a while.
        long_work = {(i, 0): 2 for i in range(322)}
        for state, wanted in ((28, [1] + [0] * 323), (27, [-7])):
            self.assertEqual(self.groups(64, together(long_work, {(0, 1): state}), "B/S/64"), wanted)
        # Before the 61st generation the sum is not yet so great.
        self.assertEqual(self.groups(61, together(long_work, {(0, 1): 27}), "B/S/64")[0], 1)
        self.assertEqual(self.groups(62, together(long_work, {(0, 1): 27}), "B/S/64"), [-7])

    def test_work_of_a_pattern_that_grows(self):
        plane = {(0, 0): 1, (0, 1): 1}
        sizes = [len(one) for one in BRAIN.generations(plane, 63)]
        greatest = max(k for k in range(65) if sum(sizes[:k]) <= 20000)
        self.assertLess(greatest, 64)
        self.assertEqual(self.groups(greatest, plane, BRAIN.text), [1, 0, 0])
        self.assertEqual(self.groups(greatest + 1, plane, BRAIN.text), [-7])

    def test_no_fate_is_asked(self):
        # Its fate is too much work, but some generations of it are not.
        self.assertEqual(self.groups(10, {(0, 0): 1, (0, 1): 1}, "B2/S/3"), [1, 0, 0])
        self.assertEqual(self.groups(64, R_PENTOMINO), [1] + [0] * 5)

    def test_refusal_leaves_all(self):
        got = ask(groups(65, []), groups(0, [1]), rule("B/S0"), groups(0, [0, 0, 2]), groups(0, [0, 0, 1]))
        self.assertEqual(got, [[-9], [-6], [0], [-6], [1, 0]])


if __name__ == "__main__":
    unittest.main()
