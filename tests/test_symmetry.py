"""Calls 6, 7, 8 and 16: spins, kin, rotor and span.

And promise 4: what's alike but for a turn and a move goes on alike.
"""

import unittest

from tests.helper import (ALL_STATES, BEEHIVE, BLINKER, BLOCK, BRAIN_SHIP, FIGURE_EIGHT, GLIDER, LIFE, LIGHT_SHIP,
                          MODELS, PULSAR, R_PENTOMINO, TOAD, WAVE, ask, ask_by, drawn, kin, move_between, moved,
                          objects_of, one_by, rotor, shuffled, span, spins, told, turned)

EXPLODING = [0, 0, 1, 0, 1, 1]
DYING = [0, 0, 2]
SHIP = told(BRAIN_SHIP)
TAILED = told(drawn("2/.1.1/.2/211.2"))
BAD = [0, 0, 3]
LIFE_PLANES = [BLOCK, BEEHIVE, BLINKER, TOAD, PULSAR, FIGURE_EIGHT, GLIDER, LIGHT_SHIP]


def planes_of(model):
    extra = LIFE_PLANES if model is LIFE else []
    return extra + objects_of(model, 10)


def spins_by(model, plane):
    phases = model.phases(plane)
    wanted = [0]
    for t in range(8):
        alike = [i for i, phase in enumerate(phases)
                 if t in model.turns and move_between(turned(plane, t), phase) is not None]
        wanted.append(min(alike, default=-1))
    return wanted


def kin_by(model, a, b):
    for i, phase in enumerate(model.phases(a)):
        for t in model.turns:
            move = move_between(turned(phase, t), b)
            if move is not None:
                return [1, i, t, move[0], move[1]]
    return [0]


def rotor_by(model, plane):
    phases = model.phases(plane)
    places = sorted({place for phase in phases for place in phase})
    steady = [place for place in places if len({phase.get(place, 0) for phase in phases}) == 1]
    return [len(steady), len(places) - len(steady)]


class SpinsTest(unittest.TestCase):
    def test_known(self):
        for plane, wanted in ((BLOCK, [0] * 8), (BEEHIVE, [0, -1, 0, -1, 0, -1, 0, -1]),
                              (BLINKER, [0, 1, 0, 1, 0, 1, 0, 1]), (TOAD, [0, -1, 0, -1, -1, -1, -1, -1]),
                              (GLIDER, [0, -1, -1, -1, -1, -1, -1, 2]), (LIGHT_SHIP, [0, -1, -1, -1, -1, -1, 2, -1]),
                              (PULSAR, [0] * 8), (FIGURE_EIGHT, [0, -1, 0, -1, -1, 0, -1, 0])):
            self.assertEqual(ask(spins(told(plane)))[0], [0] + wanted)

    def test_six(self):
        self.assertEqual(one_by("B/S0H", spins([0, 0, 1])), [0, 0, -1, 0, -1, -1, 0, -1, 0])
        self.assertEqual(one_by("B/S0V", spins([0, 0, 1])), [0] * 9)

    def test_states_matter(self):
        self.assertEqual(one_by(WAVE.text, spins(told(ALL_STATES))), [0, 0, -1, -1, -1, -1, -1, 0, -1])
        self.assertEqual(one_by("B2/S/3", spins(SHIP)), [0, 0, -1, -1, -1, -1, -1, 0, -1])

    def test_against_the_phases(self):
        turned_elsewhere = 0
        for model in MODELS:
            for plane in planes_of(model):
                got = one_by(model.text, spins(shuffled(told(plane))))
                self.assertEqual(got, spins_by(model, plane), (model.text, plane))
                self.assertEqual(got[1], 0)
                turned_elsewhere += len([i for i in got if i > 0])
        self.assertGreater(turned_elsewhere, 20)

    def test_each_phase_goes_on_alike(self):
        for model in MODELS:
            for plane in planes_of(model):
                got = one_by(model.text, spins(told(plane)))[1:]
                run = model.generations(plane, 3 * len(model.phases(plane)))
                for t, i in enumerate(got):
                    if i >= 0:
                        move = move_between(turned(plane, t), run[i])
                        for j in range(len(run) - i):
                            self.assertEqual(move_between(turned(run[j], t), run[j + i]), move)

    def test_refused(self):
        got = ask_by("B2/S/3", spins(BAD), spins(EXPLODING), spins(DYING), spins([]), spins(TAILED), spins(SHIP))
        self.assertEqual(got, [[-6], [-7], [-10], [-10], [-10], [0, 0, -1, -1, -1, -1, -1, 0, -1]])
        self.assertEqual(ask(spins(told(R_PENTOMINO)), spins(told(drawn(".1/11")))), [[-10], [-10]])


class KinTest(unittest.TestCase):
    def test_known(self):
        self.assertEqual(ask(kin(told(BLOCK), told(moved(BLOCK, 7, -9))))[0], [1, 0, 0, 7, -9])
        standing = drawn("1/1/1", 5, 5)
        self.assertEqual(ask(kin(told(BLINKER), told(standing)))[0], [1, 0, 1, 5, 5])
        self.assertEqual(ask(kin(told(GLIDER), told(GLIDER)))[0], [1, 0, 0, 0, 0])
        self.assertEqual(ask(kin(told(BLOCK), told(BLINKER)))[0], [0])
        self.assertEqual(ask(kin(told(GLIDER), told(LIGHT_SHIP)))[0], [0])

    def test_phases_that_are_no_turns(self):
        toad = LIFE.after(TOAD)
        self.assertEqual(ask(kin(told(TOAD), told(moved(toad, 100, 1000))))[0], [1, 1, 0, 100, 1000])
        one_later = LIFE.after(GLIDER)
        self.assertEqual(ask(kin(told(GLIDER), told(one_later)))[0], [1, 1, 0, 0, 0])
        two_later = LIFE.after(one_later)
        self.assertEqual(ask(kin(told(GLIDER), told(two_later)))[0], kin_by(LIFE, GLIDER, two_later))
        self.assertEqual(kin_by(LIFE, GLIDER, two_later)[:3], [1, 0, 7])
        self.assertEqual(ask(kin(told(two_later), told(one_later)))[0], kin_by(LIFE, two_later, one_later))

    def test_from_edge_to_edge(self):
        for t in range(8):
            a = moved(GLIDER, -1000000, 999998)
            b = moved(turned(LIFE.generations(GLIDER, 3)[3], t), 999990, -999990)
            self.assertEqual(ask(kin(told(a), told(b)))[0], kin_by(LIFE, a, b))
        got = one_by("B/S0", kin([-1000000, -1000000, 1], [1000000, 1000000, 1]))
        self.assertEqual(got, [1, 0, 0, 2000000, 2000000])
        got = one_by("B/S0", kin([1000000, 1000000, 1], [-1000000, -1000000, 1]))
        self.assertEqual(got, [1, 0, 0, -2000000, -2000000])
        wide = [1000000, 1000000, 1, 999998, -1000000, 1]
        got = one_by("B/S0", kin(wide, told(turned({(1000000, 1000000): 1, (999998, -1000000): 1}, 3))))
        self.assertEqual(got[:2], [1, 0])

    def test_turns_that_fit(self):
        tromino = drawn("11/1")
        other = moved(turned(tromino, 1), 4, 5)
        self.assertEqual(one_by("B/S0123456H", kin(told(tromino), told(other))), [0])
        self.assertEqual(one_by("B/S01234V", kin(told(tromino), told(other))), [1, 0, 1, 4, 5])
        other = moved(turned(tromino, 5), 4, 5)
        self.assertEqual(one_by("B/S0123456H", kin(told(tromino), told(other)))[:3], [1, 0, 2])

    def test_against_the_phases(self):
        for model in MODELS:
            for plane in planes_of(model)[:12]:
                for i, phase in enumerate(model.phases(plane)):
                    others = [moved(turned(phase, t), 11 * t - i, 5 - t) for t in model.turns]
                    got = ask_by(model.text, *[kin(told(plane), shuffled(told(other))) for other in others])
                    self.assertEqual(got, [kin_by(model, plane, other) for other in others])
                    for answer in got:
                        self.assertEqual(answer[0], 1)

    def test_objects_with_one_another(self):
        for model in MODELS:
            planes = planes_of(model)[:12]
            for a in planes:
                got = ask_by(model.text, *[kin(told(a), told(b)) for b in planes])
                self.assertEqual(got, [kin_by(model, a, b) for b in planes])

    def test_goes_on_alike(self):
        for model in MODELS:
            for plane in planes_of(model)[:8]:
                period = len(model.phases(plane))
                b = moved(turned(model.generations(plane, period // 2)[period // 2], model.turns[-1]), 3, 4)
                answer = one_by(model.text, kin(told(plane), told(b)))
                run = model.generations(plane, 2 * period + period)
                other = model.generations(b, 2 * period)
                for j, phase in enumerate(other):
                    start = turned(run[answer[1] + j], answer[2])
                    self.assertEqual(moved(start, answer[3], answer[4]), phase)

    def test_refused_in_order(self):
        got = ask_by("B2/S/3", kin(BAD, SHIP), kin(SHIP, BAD), kin(EXPLODING, BAD), kin(DYING, BAD), kin(BAD, EXPLODING),
                     kin(EXPLODING, SHIP), kin(DYING, SHIP), kin(SHIP, EXPLODING), kin(SHIP, DYING),
                     kin(EXPLODING, DYING), kin(DYING, EXPLODING), kin([], EXPLODING), kin(TAILED, EXPLODING),
                     kin(EXPLODING, []), kin(SHIP, TAILED), kin(SHIP, []), kin([], []), kin(SHIP, SHIP))
        self.assertEqual(got, [[-6], [-6], [-6], [-6], [-6], [-7], [-10], [-7], [-10], [-7], [-10], [-10], [-10], [-7],
                               [-10], [-10], [-10], [1, 0, 0, 0, 0]])


class RotorTest(unittest.TestCase):
    def test_known(self):
        for plane, wanted in ((BLOCK, [4, 0]), (BEEHIVE, [6, 0]), (BLINKER, [1, 4]), (TOAD, [2, 8])):
            self.assertEqual(ask(rotor(told(plane)))[0], wanted)

    def test_against_the_phases(self):
        both = 0
        for model in MODELS:
            for plane in planes_of(model):
                got = one_by(model.text, rotor(shuffled(told(plane))))
                if model.fate(plane)[3:] == [0, 0]:
                    self.assertEqual(got, rotor_by(model, plane))
                    both += 0 not in got
                else:
                    self.assertEqual(got, [-12])
        self.assertGreater(both, 5)

    def test_one_state_in_all_phases(self):
        # By B2/S013/3V this one's cells run through several states that aren't 0.
        plane = drawn("11/.1/.1")
        self.assertEqual(one_by("B2/S013/3V", rotor(told(plane))), rotor_by(MODELS[-1], plane))

    def test_400_cells(self):
        pattern = [number for i in range(400) for number in (3 * i, -i, 1)]
        self.assertEqual(one_by("B/S0", rotor(pattern)), [400, 0])

    def test_refused_in_order(self):
        got = ask_by("B2/S/3", rotor(BAD), rotor(EXPLODING), rotor(DYING), rotor([]), rotor(TAILED), rotor(SHIP))
        self.assertEqual(got, [[-6], [-7], [-10], [-10], [-10], [-12]])
        tailed = told(drawn("111/..1/1"))
        self.assertEqual(ask(rotor(tailed), rotor(told(GLIDER)), rotor(told(R_PENTOMINO))), [[-10], [-12], [-10]])


class SpanTest(unittest.TestCase):
    def test_still(self):
        self.assertEqual(ask(span(told(BLOCK)))[0], [0, 0, 0, 1, 1])
        self.assertEqual(ask(span(told(moved(BEEHIVE, -7, 9))))[0], [0, -7, 9, -4, 11])
        self.assertEqual(one_by("B/S0", span([5, -6, 1])), [0, 5, -6, 5, -6])
        self.assertEqual(one_by("B/S0", span([5, -6, 1, -8, 40, 1, 6, 41, 1])), [0, -8, -6, 6, 41])

    def test_comes_again_in_place(self):
        self.assertEqual(ask(span(told(BLINKER)))[0], [0, 0, -1, 2, 1])
        self.assertEqual(ask(span(told(LIFE.after(BLINKER))))[0], [0, 0, -1, 2, 1])
        self.assertEqual(ask(span(told(TOAD)))[0], [0, 0, -1, 3, 2])
        self.assertEqual(ask(span(told(PULSAR)))[0], LIFE.span(PULSAR))

    def test_travels(self):
        self.assertEqual(ask(span(told(GLIDER)))[0], [0, 0, 0, 3, 3])
        self.assertEqual(ask(span(told(LIGHT_SHIP)))[0], LIFE.span(LIGHT_SHIP))
        # Of period 1: the generation in which it comes again, one place farther, is no phase.
        self.assertEqual(one_by("B2/S/3", span(SHIP)), [0, 0, 0, 1, 1])
        self.assertEqual(one_by(WAVE.text, span(told(ALL_STATES))), [0, -62, 0, 0, 1])

    def test_each_phase_begins_anew(self):
        for i, phase in enumerate(LIFE.generations(LIGHT_SHIP, 9)):
            self.assertEqual(ask(span(told(phase)))[0], LIFE.span(phase), i)

    def test_at_the_edge(self):
        pattern = [-1000000, 1000000, 1, 1000000, -1000000, 1]
        self.assertEqual(one_by("B/S0", span(pattern)), [0, -1000000, -1000000, 1000000, 1000000])
        standing = moved(drawn("1/1/1"), 1000000, 999998)
        self.assertEqual(ask(span(told(standing)))[0], [0, 999999, 999998, 1000001, 1000000])
        standing = moved(drawn("1/1/1"), -1000000, -1000000)
        self.assertEqual(ask(span(told(standing)))[0], [0, -1000001, -1000000, -999999, -999998])

    def test_against_the_phases(self):
        travelling = 0
        for model in MODELS:
            for plane in planes_of(model):
                plane = moved(plane, -31, 17)
                self.assertEqual(one_by(model.text, span(shuffled(told(plane)))), model.span(plane), model.text)
                travelling += model.fate(plane)[3:] != [0, 0]
        self.assertGreater(travelling, 5)

    def test_wider_than_a_name(self):
        self.assertEqual(one_by("B/S0", span([0, 0, 1, 500, 64, 1])), [0, 0, 0, 500, 64])

    def test_refused_in_order(self):
        got = ask_by("B2/S/3", span(BAD), span(EXPLODING + [9]), span(EXPLODING), span(DYING), span([]), span(TAILED),
                     span(SHIP))
        self.assertEqual(got, [[-6], [-6], [-7], [-10], [-10], [-10], [0, 0, 0, 1, 1]])
        self.assertEqual(ask(span(told(R_PENTOMINO)), span(told(drawn("111/..1/1")))), [[-10], [-10]])


if __name__ == "__main__":
    unittest.main()
