"""Calls 4 and 5: name and named, and promise 3: one name for an object however it's turned, moved or met."""

import unittest

from tests.helper import (ALL_STATES, BEEHIVE, BLINKER, BLOCK, BRAIN_SHIP, CROSS, FIGURE_EIGHT, GLIDER, HEX, LIFE,
                          LIGHT_SHIP, MODELS, PULSAR, R_PENTOMINO, SIGNS, TOAD, WAVE, ask, ask_by, counted, drawing,
                          drawn, fate, kin, move_between, moved, name, named, objects_of, one_by, shuffled, text_of,
                          told, turned)

STILL = "B/S012345678"
STILL_SIX = "B/S0123456H"
STILL_FOUR = "B/S01234V"
EXPLODING = "1:1/1"


def named_as(text, plane):
    return text_of(one_by(text, name(told(plane))))


class NameTest(unittest.TestCase):
    def test_names_of_the_document(self):
        square = [0, 0, 1, 1, 0, 1, 0, 1, 1, 1, 1, 1]
        three = [5, 5, 1, 6, 5, 1, 7, 5, 1]
        five = [1, 0, 1, 2, 1, 1, 0, 2, 1, 1, 2, 1, 2, 2, 1]
        got = ask(name(square), name(three), fate(five), name(five))
        self.assertEqual(got[0], [0] + list(b"1:11/11"))
        self.assertEqual(got[1], [0] + list(b"2:111"))
        self.assertEqual(got[2], [1, 0, 4, 1, 1])
        self.assertEqual(got[3], [0] + list(b"4,1,1:1/.11/11"))

    def test_known(self):
        for plane, wanted in ((BLOCK, "1:11/11"), (BEEHIVE, "1:.11/1..1/.11"), (BLINKER, "2:111"),
                              (TOAD, "2:.111/111"), (GLIDER, "4,1,1:1/.11/11")):
            self.assertEqual(LIFE.name(plane), wanted)
            self.assertEqual(named_as("B3/S23", plane), wanted)
        self.assertEqual(named_as("B2/S/3", BRAIN_SHIP), "1,0,1:22/11")

    def test_shorter_is_less(self):
        # The one turn's drawing is shorter, since rows end at their last odd cell.
        self.assertEqual(named_as(STILL, drawn("..1/11")), "1:.11/1")
        self.assertEqual(named_as(STILL, drawn("1////1")), "1:1...1")
        self.assertEqual(named_as(STILL, drawn("1/1/1")), "1:111")
        self.assertEqual(named_as("B2/S/4", drawn("33/22/11")), "1,1,0:321/321")

    def test_lesser_byte_is_less(self):
        # - (45) . (46) / (47) 0 to 9 (48 to 57) : (58) A to Z (65 to 90) a to z (97 to 122)
        self.assertEqual(named_as(STILL, drawn("11/1")), "1:1/11")
        self.assertEqual(named_as(STILL, drawn(".1/11")), "1:1/11")
        self.assertEqual(named_as(STILL, drawn("1///.1")), "1:...1/1")
        self.assertEqual(named_as("B2/S/64", ALL_STATES), "1,1,0:" + "/".join([SIGNS[:0:-1]] * 2))

    def test_turns_that_fit(self):
        tromino = drawn("11/1")
        for t in range(8):
            plane = turned(tromino, t)
            self.assertEqual(named_as(STILL, plane), "1:1/11")
            self.assertEqual(named_as(STILL_FOUR, plane), "1:1/11")
            wanted = "1:11/1" if t in (0, 2, 5, 7) else "1:1/11"
            self.assertEqual(named_as(STILL_SIX, plane), wanted)

    def test_all_states(self):
        wanted = WAVE.name(ALL_STATES)
        self.assertEqual(sorted(set(wanted.split(":")[1])), sorted(set(SIGNS[1:] + "/")))
        for t in range(8):
            plane = moved(turned(ALL_STATES, t), 12, -34)
            self.assertEqual(named_as(WAVE.text, plane), wanted)
        self.assertEqual(one_by(WAVE.text, named(wanted)), counted(drawn(wanted.split(":")[1])))

    def test_against_the_model(self):
        for model in MODELS:
            for plane in objects_of(model, 14):
                self.assertEqual(named_as(model.text, plane), model.name(plane), (model.text, plane))
        for plane in (LIGHT_SHIP, FIGURE_EIGHT, PULSAR):
            self.assertEqual(named_as("B3/S23", plane), LIFE.name(plane))

    def test_one_name_for_phases_turns_and_moves(self):
        places = [(0, 0), (-999900, 17), (999900, -999900), (3, 999900)]
        for model in MODELS:
            for number, plane in enumerate(objects_of(model, 6)):
                wanted = model.name(plane)
                for i, phase in enumerate(model.phases(plane)):
                    calls = []
                    for t in model.turns:
                        dx, dy = places[(i + t + number) % 4]
                        calls.append(name(shuffled(told(moved(turned(phase, t), dx, dy)))))
                    for answer in ask_by(model.text, *calls):
                        self.assertEqual(text_of(answer), wanted)

    def test_one_name_just_if_kin(self):
        for model in MODELS:
            planes = objects_of(model, 14)
            names = [named_as(model.text, plane) for plane in planes]
            for i, a in enumerate(planes):
                got = ask_by(model.text, *[kin(told(a), told(b)) for b in planes])
                self.assertEqual([answer[0] for answer in got], [int(names[i] == other) for other in names])

    def test_at_the_edge(self):
        for x in (-1000000, 999999):
            for y in (-1000000, 999999):
                self.assertEqual(named_as("B3/S23", moved(BLOCK, x, y)), "1:11/11")

    def test_400_cells(self):
        plane = {(x, y): 1 for x in range(20) for y in range(20)}
        self.assertEqual(named_as(STILL, plane), "1:" + "/".join(["1" * 20] * 20))
        uneven = {(i * 37 % 64, i * 53 % 61): 1 for i in range(400)}
        self.assertEqual(named_as(STILL, uneven), named_as(STILL, turned(uneven, 5)))
        self.assertEqual(named_as(STILL, uneven).count("1") - 1, len(uneven))

    def test_greatest_difference(self):
        self.assertEqual(named_as(STILL, {(0, 0): 1, (63, 0): 1}), "1:1" + "." * 62 + "1")
        self.assertEqual(named_as(STILL, {(0, 0): 1, (0, 63): 1}), "1:1" + "." * 62 + "1")
        got = ask_by(STILL, name([0, 0, 1, 64, 0, 1]), name([0, 0, 1, 0, 64, 1]), name([0, 0, 1, 63, 64, 1]),
                     name([-1000000, 0, 1, 1000000, 0, 1]), name([0, -1000000, 1, 0, 1000000, 1]))
        self.assertEqual(got, [[-8]] * 5)
        corners = {(0, 0): 1, (63, 0): 1, (0, 63): 1, (63, 63): 1}
        line = "1" + "." * 62 + "1"
        self.assertEqual(named_as(STILL, corners), "1:" + line + "/" * 63 + line)

    def test_difference_in_some_phase(self):
        lying = dict(BLOCK)
        lying.update(moved(BLINKER, 62, 0))
        standing = LIFE.after(lying)
        self.assertEqual(max(x for x, y in standing), 63)
        self.assertEqual(max(x for x, y in lying), 64)
        for plane in (lying, standing):
            self.assertEqual(one_by("B3/S23", fate(told(plane))), [1, 0, 2, 0, 0])
            self.assertEqual(one_by("B3/S23", name(told(plane))), [-8])
            self.assertEqual(one_by("B3/S23", name(told(turned(plane, 7)))), [-8])

    def test_refused_in_order(self):
        got = ask_by("B2/S/3", name([0, 0, 3]), name([0, 0, 1, 0, 1, 1, 0]), name([0, 0, 1, 0, 1, 1]),
                     name([0, 0, 1, 0, 1, 1, 500, 0, 1]), name([0, 0, 2]), name([]), name([0, 0, 2, 500, 0, 2]),
                     name(told(drawn("2/.1.1/.2/211.2"))), name(told({**BRAIN_SHIP, **moved(BRAIN_SHIP, 0, 99)})))
        self.assertEqual(got, [[-6], [-6], [-7], [-7], [-10], [-10], [-10], [-10], [-8]])
        self.assertEqual(ask(name(told(R_PENTOMINO))), [[-10]])
        self.assertEqual(ask(name(told(drawn(".1/11")))), [[-10]])


class NamedTest(unittest.TestCase):
    def test_names_are_read(self):
        for text in ("1:11/11", "2:111", "4,1,1:1/.11/11", "1:.11/1..1/.11"):
            self.assertEqual(one_by("B3/S23", named(text)), counted(drawn(text.split(":")[1])))
        self.assertEqual(one_by("B3/S23", named("4,1,1:1/.11/11")), [5, 0, 0, 1, 1, 1, 1, 2, 1, 1, 0, 2, 1, 1, 2, 1])
        self.assertEqual(one_by(STILL, named("1:...1/1")), [2, 3, 0, 1, 0, 1, 1])

    def test_read_as_an_object_of_that_name(self):
        for model in MODELS:
            for plane in objects_of(model, 14):
                text = named_as(model.text, plane)
                answer = one_by(model.text, named(text))
                self.assertEqual(answer[0], len(answer[1:]) // 3)
                got = ask_by(model.text, name(answer[1:]), kin(told(plane), answer[1:]))
                self.assertEqual(text_of(got[0]), text)
                self.assertEqual(got[1][0], 1)

    def test_other_callings_are_no_names(self):
        for model in MODELS:
            for plane in objects_of(model, 6):
                callings = sorted(set(model.callings(plane)))
                for calling in callings:
                    wanted = [-13]
                    if calling == model.name(plane):
                        wanted = counted(drawn(calling.split(":")[1]))
                    self.assertEqual(one_by(model.text, named(calling)), wanted, calling)

    def test_no_names(self):
        for text in ("", ":", "1:", "1:1", "1", "11/11", "1:11/11/", "1:/11/11", "1:11./11", "1:.11/.11", "01:11/11",
                     "2:11/11", "1:11/11 ", " 1:11/11", "1:11/11\n", "1:11/11:", "1::11/11", ":1:11/11", "1,0,0:11/11",
                     "1;11/11", "11/11:1", "2:1/1/1", "4:111", "1:111", "2:.111", "2:111/", "2:112", "2:222", "2:aaa",
                     "2:11a", "2:1-1", "2:1+1", "2:111\x00", "\xff:111", "2:11\xff", "4,1,1:.1/..1/111", "4,1,1:111",
                     "4,-1,1:.1/11/.11", "4,2,2:1/.11/11", "4:1/.11/11", "+2:111", "-2:111", "x:111", "2 :111",
                     "2:0111", "1:.11/11/.1", "1:11/11////", "1:....", "1://///", "1:1/1", "2:111//////111",
                     "2:111//" + "." * 70 + "1"):
            self.assertEqual(one_by("B3/S23", named(text)), [-13], text)

    def test_states_of_the_rule(self):
        got = ask_by("B2/S/3", named("1,0,1:22/11"), named("1,1,0:321/321"), named("2:111"))
        self.assertEqual(got, [[4, 0, 0, 2, 1, 0, 2, 0, 1, 1, 1, 1, 1], [-13], [-13]])
        got = ask_by("B2/S/4", named("1,0,1:22/11"), named("1,1,0:321/321"), named("1,1,0:4321/4321"))
        self.assertEqual(got, [[-13], [6, 0, 0, 3, 1, 0, 2, 2, 0, 1, 0, 1, 3, 1, 1, 2, 2, 1, 1], [-13]])
        got = ask_by("B/S0", named("1:1"), named("1:2"), named("1:."))
        self.assertEqual(got, [[1, 0, 0, 1], [-13], [-13]])

    def test_too_wide_is_no_name(self):
        for far, wanted in ((62, [2, 0, 0, 1, 63, 0, 1]), (63, [-13]), (1000, [-13])):
            self.assertEqual(one_by(STILL, named("1:1" + "." * far + "1")), wanted)

    def test_too_much_work_is_no_name(self):
        self.assertEqual(one_by("B2/S/3", fate([0, 0, 1, 0, 1, 1])), [-7])
        self.assertEqual(one_by("B2/S/3", named(EXPLODING)), [-13])

    def test_more_than_400_cells(self):
        for side in (21, 64):
            text = "1:" + "/".join(["1" * side] * side)
            square = {(x, y): 1 for x in range(side) for y in range(side)}
            self.assertEqual(one_by(STILL, named(text)), counted(square))
        self.assertEqual(one_by(STILL, name(told({(x, y): 1 for x in range(21) for y in range(21)}))), [-6])

    def test_long_texts(self):
        for count in (4398, 4399, 4400, 15000):
            self.assertEqual(one_by(STILL, named("1:" + "1" * count)), [-13])
            self.assertEqual(one_by(STILL, named("1:1" + "/" * count)), [-13])
            self.assertEqual(one_by(STILL, named("1" * count)), [-13])
            self.assertEqual(one_by(STILL, named("1" * count + ":1")), [-13])

    def test_byte_out_of_range(self):
        for byte in (-1, 256, 10 ** 18):
            for text in ([byte], list(b"2:111") + [byte], [byte] + list(b"2:111"), [49] * 5000 + [byte]):
                self.assertEqual(ask(named(text), named("2:111")), [[-100], [3, 0, 0, 1, 1, 0, 1, 2, 0, 1]])

    def test_every_byte_behind_a_name(self):
        for byte in range(256):
            self.assertEqual(ask(named(list(b"2:111") + [byte])), [[-13]])
            self.assertEqual(ask(named([byte] + list(b"2:111"))), [[-13]])

    def test_drawings_by_the_model(self):
        for model in (HEX, CROSS):
            for plane in objects_of(model, 6):
                text = named_as(model.text, plane)
                read = drawn(text.split(":")[1])
                self.assertEqual(drawing(read), text.split(":")[1])
                self.assertTrue(any(move_between(read, turned(phase, t)) is not None
                                    for phase in model.phases(plane) for t in model.turns))


if __name__ == "__main__":
    unittest.main()
