"""Promises 1 to 4 by every rule of the models, with patterns that stand at the farthest places that are let in."""

import unittest

from tests.helper import (MODELS, ask_by, counted, fate, kin, later, move_between, moved, name, named, objects_of,
                          one_by, rotor, soup, span, spins, text_of, told, turned)

FARTHEST = 1000000
LATEST = 10 ** 18


def at_the_corners(plane):
    """The plane moved so that its outmost cells stand at the farthest places: for each of the four corners."""
    left = -FARTHEST - min(x for x, y in plane)
    right = FARTHEST - max(x for x, y in plane)
    up = -FARTHEST - min(y for x, y in plane)
    down = FARTHEST - max(y for x, y in plane)
    return [moved(plane, dx, dy) for dx in (left, right) for dy in (up, down)]


def far_objects():
    for model in MODELS:
        for plane in objects_of(model, 4):
            for far in at_the_corners(plane):
                yield model, plane, far


class LaterTest(unittest.TestCase):
    """Promise 1."""

    def test_objects(self):
        for model, plane, far in far_objects():
            run = model.generations(far, 12)
            numbers = [0, 1, 2, 5, 12]
            got = ask_by(model.text, *[later(k, told(far)) for k in numbers])
            self.assertEqual(got, [counted(run[k]) for k in numbers])

    def test_objects_for_ever(self):
        for model, plane, far in far_objects():
            period, dx, dy = model.fate(plane)[2:]
            phases = model.phases(far)
            for k in (LATEST, LATEST - 1, 3 * 10 ** 15 + 7):
                rounds = k // period
                wanted = counted(moved(phases[k % period], rounds * dx, rounds * dy))
                self.assertEqual(one_by(model.text, later(k, told(far))), wanted)

    def test_step_by_step(self):
        # What's told of k + 1 is what's told of 1 for what's told of k.
        checked = 0
        for model in MODELS:
            for seed in range(3):
                plane = moved(soup(seed, 4, 4, model.states), -FARTHEST + 100, FARTHEST - 100)
                now = told(plane)
                for k in range(30):
                    got = ask_by(model.text, later(k, told(plane)), later(0, now))
                    if got[0][0] < 0 or got[0][0] > 400:
                        break
                    self.assertEqual(got[0], got[1], (model.text, seed, k))
                    checked += 1
                    after = one_by(model.text, later(1, now))
                    if after[0] < 0:
                        break
                    now = after[1:]
        self.assertGreater(checked, 300)

    def test_whatever_it_becomes(self):
        for model in MODELS:
            for seed in range(3):
                for far in at_the_corners(soup(seed, 4, 3, model.states)):
                    run = model.generations(far, 9)
                    for k in (0, 1, 4, 9):
                        got = one_by(model.text, later(k, told(far)))
                        if got != [-7]:
                            self.assertEqual(got, counted(run[k]))

    def test_from_corner_to_corner(self):
        for model in MODELS:
            plane = objects_of(model, 1)[0]
            corners = at_the_corners(plane)
            whole = {**corners[0], **corners[3]}
            run = model.generations(whole, 7)
            self.assertEqual(one_by(model.text, fate(told(whole))), model.fate(plane))
            self.assertEqual(one_by(model.text, later(7, told(whole))), counted(run[7]))


class PeriodTest(unittest.TestCase):
    """Promise 2."""

    def test_fate_is_the_same_everywhere(self):
        for model, plane, far in far_objects():
            self.assertEqual(one_by(model.text, fate(told(far))), model.fate(plane))

    def test_no_lesser_period(self):
        for model, plane, far in far_objects():
            period, dx, dy = one_by(model.text, fate(told(far)))[2:]
            run = model.generations(far, period)
            self.assertEqual(move_between(run[0], run[period]), (dx, dy))
            for p in range(1, period):
                self.assertIsNone(move_between(run[0], run[p]))


class NameTest(unittest.TestCase):
    """Promise 3."""

    def test_one_name_everywhere(self):
        for model, plane, far in far_objects():
            wanted = model.name(plane)
            patterns = [told(far)] + [told(one) for t in model.turns for one in at_the_corners(turned(plane, t))]
            for answer in ask_by(model.text, *[name(pattern) for pattern in patterns]):
                self.assertEqual(text_of(answer), wanted)
            answer = one_by(model.text, named(wanted))
            self.assertEqual(text_of(one_by(model.text, name(answer[1:]))), wanted)

    def test_kin_from_corner_to_corner(self):
        for model, plane, far in far_objects():
            t = model.turns[-1]
            phases = model.phases(far)
            for other in at_the_corners(turned(plane, t)):
                found = one_by(model.text, kin(told(far), told(other)))
                self.assertEqual(found[0], 1)
                i, turn, dx, dy = found[1:]
                self.assertEqual(moved(turned(phases[i], turn), dx, dy), other)

    def test_other_names_for_others(self):
        for model in MODELS:
            planes = objects_of(model, 6)
            far = [at_the_corners(plane)[i % 4] for i, plane in enumerate(planes)]
            names = [text_of(one_by(model.text, name(told(plane)))) for plane in far]
            for i, a in enumerate(far):
                got = ask_by(model.text, *[kin(told(a), told(b)) for b in far])
                self.assertEqual([answer[0] for answer in got], [int(names[i] == other) for other in names])


class AlikeTest(unittest.TestCase):
    """Promise 4."""

    def test_goes_on_alike(self):
        for model, plane, far in far_objects():
            got = one_by(model.text, spins(told(far)))
            self.assertEqual(got, one_by(model.text, spins(told(plane))))
            run = model.generations(far, 2 * len(model.phases(plane)))
            for t, i in enumerate(got[1:]):
                if i >= 0:
                    move = move_between(turned(run[0], t), run[i])
                    self.assertIsNotNone(move)
                    for j in range(len(run) - i):
                        self.assertEqual(moved(turned(run[j], t), *move), run[j + i])

    def test_places_taken(self):
        for model, plane, far in far_objects():
            self.assertEqual(one_by(model.text, rotor(told(far))), one_by(model.text, rotor(told(plane))))
            self.assertEqual(one_by(model.text, span(told(far))), model.span(far))


if __name__ == "__main__":
    unittest.main()
