"""Calls 10 to 15: add, tallies, name at, tally, forget and ranked.

And promise 6: the order in which patterns are added makes no difference to their tallies.
"""

import itertools
import random
import unittest

from tests.helper import (BEEHIVE, BLINKER, BLOCK, BRAIN_SHIP, GLIDER, LIFE, MODELS, R_PENTOMINO, TOAD, add, ask,
                          ask_by, drawn, fate, forget, form, groups, later, moved, name, name_at, named, objects_of,
                          ranked, rule, shuffled, span, tallies, tally, text_of, told, turned)

STILL = "B/S012345678/64"
GREATEST = 9223372036854775807

# By the still rule: too much work, no object, too wide, and no pattern.
AGEING = [number for i in range(400) for number in (i % 20, i // 20, 2)]
DYING = [0, 0, 2]
WIDE = [0, 0, 1, 64, 0, 1]
BAD = [0, 0, 64]

# What the collection is, as it's seen from outside.
SEEN = [tallies(), ranked()]


def pair(apart):
    """An object by the still rule, for each distance another one."""
    return [0, 0, 1, apart, 0, 1]


def pair_name(apart):
    return "1:1" + "." * (apart - 1) + "1"


def answer_of(text):
    return [0] + list(text.encode("ascii"))


class Model:
    """The collection by the document's words."""

    def __init__(self):
        self.names = []
        self.counts = []

    def add(self, text):
        if text not in self.names:
            if len(self.names) == 32:
                return [-14]
            self.names.append(text)
            self.counts.append(0)
        place = self.names.index(text)
        self.counts[place] += 1
        return [place, self.counts[place]]

    def tallies(self):
        return [len(self.names)] + self.counts

    def name_at(self, i):
        return answer_of(self.names[i]) if 0 <= i < len(self.names) else [-15]

    def tally(self, text):
        return [self.counts[self.names.index(text)] if text in self.names else 0]

    def forget(self, text):
        if text not in self.names:
            return [-15]
        place = self.names.index(text)
        self.names.pop(place)
        return [self.counts.pop(place)]

    def ranked(self):
        places = sorted(range(len(self.names)), key=lambda place: (-self.counts[place], len(self.names[place]),
                                                                   self.names[place].encode("ascii")))
        return [len(places)] + places


class EmptyTest(unittest.TestCase):
    def test_nothing_there(self):
        got = ask(tallies(), ranked(), name_at(0), name_at(-1), name_at(1), tally("1:11/11"), tally(""),
                  forget("1:11/11"), forget(""), tallies(), ranked())
        self.assertEqual(got, [[0], [0], [-15], [-15], [-15], [0], [0], [-15], [-15], [0], [0]])

    def test_each_list_begins_anew(self):
        self.assertEqual(ask(add(told(BLOCK)), tallies()), [[0, 1], [1, 1]])
        self.assertEqual(ask(tallies(), tally("1:11/11"), add(told(BLOCK))), [[0], [0], [0, 1]])


class AddTest(unittest.TestCase):
    def test_new_and_there(self):
        got = ask(add(told(BLOCK)), add(told(BLINKER)), add(told(BLOCK)), add(told(GLIDER)), add(told(BLINKER)),
                  add(told(BLOCK)), tallies(), name_at(0), name_at(1), name_at(2))
        self.assertEqual(got, [[0, 1], [1, 1], [0, 2], [2, 1], [1, 2], [0, 3], [3, 3, 2, 1], answer_of("1:11/11"),
                               answer_of("2:111"), answer_of("4,1,1:1/.11/11")])

    def test_phases_turns_and_moves_are_one(self):
        for model in MODELS:
            for plane in objects_of(model, 5):
                calls = []
                for i, phase in enumerate(model.phases(plane)[:8]):
                    for t in model.turns:
                        calls.append(add(shuffled(told(moved(turned(phase, t), 900 * i - 7, 5 - 900000 * (t % 2))))))
                got = ask_by(model.text, *calls, tallies(), name_at(0))
                self.assertEqual(got[:-2], [[0, i + 1] for i in range(len(calls))])
                self.assertEqual(got[-2:], [[1, len(calls)], answer_of(model.name(plane))])

    def test_only_add_counts(self):
        block = told(BLOCK)
        got = ask(name(block), named("1:11/11"), fate(block), later(3, block), groups(3, block), span(block), form(),
                  tally("1:11/11"), forget("1:11/11"), *SEEN)
        self.assertEqual(got[-4:], [[0], [-15], [0], [0]])

    def test_refused(self):
        got = ask_by(STILL, add(BAD), add(AGEING), add(DYING), add([]), add(WIDE), *SEEN, add(pair(1)), add(BAD),
                     add(AGEING), add(DYING), add([]), add(WIDE), *SEEN)
        refusals = [[-6], [-7], [-10], [-10], [-8]]
        self.assertEqual(got, refusals + [[0], [0], [0, 1]] + refusals + [[1, 1], [1, 0]])
        got = ask(add([0]), add(told(R_PENTOMINO)), add(told(drawn("111/..1/1"))), add(told(drawn("1"))), *SEEN)
        self.assertEqual(got, [[-6], [-10], [-10], [-10], [0], [0]])
        got = ask_by("B2/S/3", add([0, 0, 1, 0, 1, 1]), add([0, 0, 1, 0, 1, 1, 0, 0, 1]), add(told(BRAIN_SHIP)))
        self.assertEqual(got, [[-7], [-6], [0, 1]])

    def test_refused_in_order(self):
        # Each of them has what a later refusal asks for, too: it's wide, or has a name that's not there.
        wide_and_bad = AGEING[:-3] + [900, 0, 64]
        wide_and_ageing = AGEING[:-3] + [900, 0, 2]
        wide_and_dying = [0, 0, 2, 900, 0, 2]
        full = [add(pair(i)) for i in range(1, 33)]
        got = ask_by(STILL, add(wide_and_bad), add(wide_and_ageing), add(wide_and_dying), *full, add(wide_and_bad),
                     add(BAD), add(wide_and_ageing), add(AGEING), add(wide_and_dying), add(DYING), add(WIDE),
                     add(pair(33)), *SEEN)
        self.assertEqual(got[:3], [[-6], [-7], [-10]])
        self.assertEqual(got[3:35], [[i, 1] for i in range(32)])
        self.assertEqual(got[35:43], [[-6], [-6], [-7], [-7], [-10], [-10], [-8], [-14]])
        self.assertEqual(got[43:], [[32] + [1] * 32, [32] + list(range(32))])

    def test_32_names(self):
        full = [add(pair(i)) for i in range(1, 33)]
        names = [name_at(31), name_at(32), tally(pair_name(33))]
        got = ask_by(STILL, *full, add(pair(33)), add(pair(32)), add(pair(1)), add([0, 0, 1]), tallies(), *names)
        self.assertEqual(got[31], [31, 1])
        self.assertEqual(got[32:36], [[-14], [31, 2], [0, 2], [-14]])
        self.assertEqual(got[36], [32, 2] + [1] * 30 + [2])
        self.assertEqual(got[37:], [answer_of(pair_name(32)), [-15], [0]])

    def test_room_again(self):
        full = [add(pair(i)) for i in range(1, 33)]
        got = ask_by(STILL, *full, add(pair(40)), forget(pair_name(7)), add(pair(40)), add(pair(7)), tallies(),
                     name_at(6), name_at(31), tally(pair_name(7)))
        self.assertEqual(got[32:36], [[-14], [1], [31, 1], [-14]])
        self.assertEqual(got[36:], [[32] + [1] * 32, answer_of(pair_name(8)), answer_of(pair_name(40)), [0]])


class TalliesTest(unittest.TestCase):
    def test_in_order(self):
        got = ask(add(told(BLINKER)), tallies(), add(told(BLOCK)), tallies(), add(told(BLOCK)), tallies(),
                  add(told(BLINKER)), add(told(BLOCK)), tallies())
        self.assertEqual(got[1::2], [[1, 1], [2, 1, 1], [2, 1, 2], [1, 3]])
        self.assertEqual(got[-1], [2, 2, 3])


class NameAtTest(unittest.TestCase):
    def test_places(self):
        got = ask(add(told(BLOCK)), add(told(TOAD)), name_at(0), name_at(1), name_at(2), name_at(-1), name_at(-2),
                  name_at(32), name_at(GREATEST), name_at(-GREATEST - 1), *SEEN)
        self.assertEqual(got[2:4], [answer_of("1:11/11"), answer_of("2:.111/111")])
        self.assertEqual(got[4:10], [[-15]] * 6)
        self.assertEqual(got[10:], [[2, 1, 1], [2, 0, 1]])

    def test_read_back(self):
        for model in MODELS:
            planes = objects_of(model, 8)
            got = ask_by(model.text, *[add(told(plane)) for plane in planes], *[name_at(i) for i in range(8)])
            count = 1 + max(answer[0] for answer in got[:len(planes)])
            for i, answer in enumerate(got[len(planes):]):
                if i < count:
                    again = ask_by(model.text, named(text_of(answer)))[0]
                    self.assertEqual(ask_by(model.text, name(again[1:])), [answer])
                else:
                    self.assertEqual(answer, [-15])


class TallyTest(unittest.TestCase):
    def test_there_or_not(self):
        got = ask(add(told(BLOCK)), add(told(BLOCK)), add(told(GLIDER)), tally("1:11/11"), tally("4,1,1:1/.11/11"),
                  tally("2:111"))
        self.assertEqual(got[3:], [[2], [1], [0]])

    def test_texts_that_are_no_names(self):
        texts = ["", ":", "1", "1:11/11 ", " 1:11/11", "1:11/1", "1:11/11/", "01:11/11", "11/11", "x", "\x00", "\xff",
                 "1:11/11\x00", "4,1,1:.1/..1/111", [49] * 15000]
        got = ask(add(told(BLOCK)), add(told(GLIDER)), *[tally(text) for text in texts], *SEEN)
        self.assertEqual(got[2:], [[0]] * len(texts) + [[2, 1, 1], [2, 0, 1]])

    def test_letters_are_not_alike(self):
        # A name's small and great letters are signs of different states.
        plane = {(-i, y): i + 1 for i in range(14) for y in (0, 1)}
        text = "1,1,0:edcba987654321/edcba987654321"
        got = ask_by("B2/S/15", add(told(plane)), name_at(0), tally(text), tally(text.upper()), forget(text.upper()),
                     forget(text))
        self.assertEqual(got, [[0, 1], answer_of(text), [1], [0], [-15], [1]])

    def test_byte_out_of_range(self):
        for byte in (-1, 256, 10 ** 18):
            for text in ([byte], list(b"1:11/11") + [byte], [byte] * 5000):
                got = ask(tally(text), forget(text), add(told(BLOCK)), tally(text), forget(text), *SEEN)
                self.assertEqual(got, [[-100], [-100], [0, 1], [-100], [-100], [1, 1], [1, 0]])


class ForgetTest(unittest.TestCase):
    def test_those_behind_are_nearer(self):
        start = [add(told(BLOCK)), add(told(BLINKER)), add(told(GLIDER)), add(told(BLINKER)), add(told(TOAD))]
        names = [name_at(i) for i in range(4)]
        texts = ["1:11/11", "2:111", "4,1,1:1/.11/11", "2:.111/111"]
        counts = [1, 2, 1, 1]
        for place in range(4):
            got = ask(*start, forget(texts[place]), tallies(), *names, tally(texts[place]), forget(texts[place]))
            left = texts[:place] + texts[place + 1:]
            self.assertEqual(got[5], [counts[place]])
            self.assertEqual(got[6], [3] + counts[:place] + counts[place + 1:])
            self.assertEqual(got[7:11], [answer_of(text) for text in left] + [[-15]])
            self.assertEqual(got[11:], [[0], [-15]])

    def test_again_at_the_end(self):
        got = ask(add(told(BLOCK)), add(told(BLOCK)), add(told(BLINKER)), forget("1:11/11"), add(told(BLINKER)),
                  add(told(BLOCK)), *SEEN, name_at(0), name_at(1))
        self.assertEqual(got[3:], [[2], [0, 2], [1, 1], [2, 2, 1], [2, 0, 1], answer_of("2:111"), answer_of("1:11/11")])

    def test_not_there(self):
        got = ask(forget("1:11/11"), add(told(BLOCK)), forget("2:111"), forget(""), forget("1:11/1"), forget("x"),
                  tallies(), forget("1:11/11"), forget("1:11/11"), *SEEN)
        self.assertEqual(got, [[-15], [0, 1], [-15], [-15], [-15], [-15], [1, 1], [1], [-15], [0], [0]])


class RankedTest(unittest.TestCase):
    def test_greatest_tally_first(self):
        calls = [add(told(plane)) for plane in (BLOCK, GLIDER, TOAD, GLIDER, TOAD, GLIDER)]
        self.assertEqual(ask(*calls, ranked())[-1], [3, 1, 2, 0])

    def test_of_one_tally_the_shorter_name_first(self):
        # 2:111, 1:11/11, and of one length 1:.11/1..1/.11 and 4,1,1:1/.11/11.
        for order in itertools.permutations((GLIDER, BLOCK, BLINKER, BEEHIVE)):
            got = ask(*[add(told(plane)) for plane in order], ranked())
            wanted = [order.index(plane) for plane in (BLINKER, BLOCK, BEEHIVE, GLIDER)]
            self.assertEqual(got[-1], [4] + wanted)

    def test_of_one_length_the_lesser_byte_first(self):
        # . is before / and this before the digits.
        planes = [drawn("1..1"), drawn("1/.1"), drawn("1.11"), drawn("1111"), drawn("11/11"), drawn("1/11")]
        names = ["1:1..1", "1:.1/1", "1:1.11", "1:1111", "1:11/11", "1:1/11"]
        wanted = [1, 0, 2, 5, 3, 4]
        got = ask_by(STILL, *[add(told(plane)) for plane in planes], ranked(), *[name_at(i) for i in range(6)])
        self.assertEqual(got[7:], [answer_of(text) for text in names])
        self.assertEqual(got[6], [6] + wanted)
        got = ask_by(STILL, *[add(told(plane)) for plane in planes[::-1]], ranked())
        self.assertEqual(got[6], [6] + [5 - place for place in wanted])

    def test_tally_goes_ahead_of_name(self):
        got = ask(add(told(BLINKER)), add(told(GLIDER)), ranked(), add(told(GLIDER)), ranked(), add(told(BLINKER)),
                  ranked(), forget("2:111"), ranked())
        self.assertEqual(got[2::2], [[2, 0, 1], [2, 1, 0], [2, 0, 1], [1, 0]])


class RuleTest(unittest.TestCase):
    def test_empties_the_collection(self):
        for text in ("B3/S23", "23/3", "B3/S2", "B2/S/3"):
            got = ask(add(told(BLOCK)), add(told(BLOCK)), rule(text), *SEEN, name_at(0), tally("1:11/11"),
                      forget("1:11/11"))
            self.assertEqual(got[2:], [[0], [0], [0], [-15], [0], [-15]])

    def test_begins_again_at_place_0(self):
        got = ask(add(told(BLOCK)), add(told(BLINKER)), rule("B3/S23"), add(told(BLINKER)), tallies())
        self.assertEqual(got, [[0, 1], [1, 1], [0], [0, 1], [1, 1]])

    def test_empties_a_full_one(self):
        got = ask_by(STILL, *[add(pair(i)) for i in range(1, 34)], rule(STILL), add(pair(33)), tallies())
        self.assertEqual(got[32:], [[-14], [0], [0, 1], [1, 1]])

    def test_refused_it_leaves_the_collection(self):
        refused = [(rule(""), -1), (rule("B3/S2x"), -1), (rule("B5/SV"), -2), (rule("B3/S/99"), -3),
                   (rule("B03/S"), -4), (rule([256]), -100), (rule(list(b"B3/S23") + [-1]), -100)]
        got = ask(add(told(BLOCK)), add(told(GLIDER)), add(told(GLIDER)), *[call for call, number in refused], *SEEN,
                  name_at(1), form())
        self.assertEqual(got[3:10], [[number] for call, number in refused])
        self.assertEqual(got[10:], [[2, 1, 2], [2, 1, 0], answer_of("4,1,1:1/.11/11"), answer_of("B3/S23")])


class OrderTest(unittest.TestCase):
    """Promise 6."""

    def test_any_order(self):
        planes = [BLOCK, GLIDER, BLOCK, BLINKER, LIFE.after(GLIDER), TOAD, LIFE.after(BLINKER), moved(BLOCK, 9, 9)]
        texts = ["1:11/11", "2:111", "2:.111/111", "4,1,1:1/.11/11"]
        source = random.Random(6)
        for _ in range(40):
            source.shuffle(planes)
            got = ask(*[add(told(plane)) for plane in planes], *[tally(text) for text in texts])
            self.assertEqual(got[len(planes):], [[3], [2], [1], [2]])

    def test_any_order_by_each_rule(self):
        source = random.Random(7)
        for model in MODELS:
            pool = [plane for plane in objects_of(model, 6) for _ in range(1 + source.randrange(4))]
            texts = sorted({model.name(plane) for plane in pool})
            seen = []
            for _ in range(5):
                source.shuffle(pool)
                got = ask_by(model.text, *[add(told(plane)) for plane in pool], *[tally(text) for text in texts],
                             ranked(), *[name_at(i) for i in range(len(texts))])
                places = got[len(pool) + len(texts)][1:]
                names = [text_of(answer) for answer in got[len(pool) + len(texts) + 1:]]
                self.assertEqual(sorted(names), texts)
                seen.append((got[len(pool):len(pool) + len(texts)], [names[place] for place in places]))
            self.assertEqual(seen, seen[:1] * 5)
            self.assertEqual(sum(answer[0] for answer in seen[0][0]), len(pool))


class ManyCallsTest(unittest.TestCase):
    def one_call(self, source, model, pool, collection):
        kind = source.randrange(8)
        plane, text = source.choice(pool)
        if kind < 3:
            t = source.choice(model.turns)
            return add(told(moved(turned(plane, t), source.randrange(99), -50))), collection.add(text)
        if kind == 3:
            return tallies(), collection.tallies()
        if kind == 4:
            i = source.randrange(-1, len(collection.names) + 1)
            return name_at(i), collection.name_at(i)
        if kind == 5:
            return tally(text), collection.tally(text)
        if kind == 6 and source.randrange(3) == 0:
            return forget(text), collection.forget(text)
        return ranked(), collection.ranked()

    def test_lines_of_80_calls(self):
        for model in MODELS:
            pool = [(plane, model.name(plane)) for plane in objects_of(model, 12)]
            for seed in range(4):
                source = random.Random(f"{model.text} {seed}")
                collection = Model()
                pairs = [self.one_call(source, model, pool, collection) for _ in range(79)]
                got = ask_by(model.text, *[call for call, wanted in pairs])
                self.assertEqual(got, [wanted for call, wanted in pairs], (model.text, seed))

    def test_lines_about_a_full_collection(self):
        pool = [(drawn(pair_name(i)[2:]), pair_name(i)) for i in range(1, 37)]
        for seed in range(6):
            source = random.Random(seed)
            collection = Model()
            pairs = [(add(pair(i)), collection.add(pair_name(i))) for i in range(1, 32)]
            pairs += [self.one_call(source, LIFE, pool, collection) for _ in range(48)]
            got = ask_by(STILL, *[call for call, wanted in pairs])
            self.assertEqual(got, [wanted for call, wanted in pairs], seed)


if __name__ == "__main__":
    unittest.main()
