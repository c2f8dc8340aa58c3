"""The interface: how calls and answers are laid, and that nothing is changed or kept."""

import unittest

import lifenames.objects
from lifenames.objects import answers
from tests.helper import (BLINKER, BLOCK, BRAIN_SHIP, GLIDER, PULSAR, R_PENTOMINO, add, ask, fate, forget, form,
                          groups, kin, later, name, name_at, named, ranked, rotor, rule, soup, span, spins, tallies,
                          tally, told)

SQUARE = [0, 0, 1, 1, 0, 1, 0, 1, 1, 1, 1, 1]
TRIO = [0, 0, 1, 0, 1, 1, 1, 1, 1]


def lists():
    """Lists of calls, with every call and every refusal among them."""
    glider = told(GLIDER)
    far = told(BRAIN_SHIP)
    plain = [form(), fate(glider), later(10 ** 18, glider), name(glider), named("2:111"), spins(glider),
             kin(glider, glider), rotor(told(PULSAR)), groups(64, glider), add(glider), add(told(BLOCK)), add(glider),
             tallies(), name_at(1), tally("1:11/11"), ranked(), forget("1:11/11"), tallies(), span(glider),
             rule("B2/S/3"), form(), fate(far), name(far), later(7, far), groups(3, far), add(far), span(far)]
    refused = [rule(""), rule("B5/SV"), rule("B3/S/99"), rule("B0/S"), rule([300]), fate([1]), later(-1, glider),
               later(129, told(R_PENTOMINO)), name([]), named("2:1"), named([-1]), spins([0, 0, 0]), kin(glider, [7]),
               rotor(glider), form(), fate([]), name([0, 0, 1, 0, 0, 1]), groups(65, glider), groups(0, [1]), add([]),
               name_at(0), forget("1:11/11"), forget([256]), tally([-1]), span([]), tallies(), ranked()]
    soups = [fate(told(soup(seed, 4, 4))) for seed in range(20)]
    return [[number for call in calls for number in call] for calls in (plain, refused, soups, plain + refused)]


class LayoutTest(unittest.TestCase):
    def test_one_list_of_answers(self):
        calls = [1, 2, 12] + SQUARE + [3, 5, 12] + SQUARE + [4, 12] + SQUARE + [5, 3, 49, 58, 49, 6, 12] + SQUARE
        calls += [7, 12] + SQUARE + [12] + SQUARE + [8, 12] + SQUARE + [0, 1, 47, 1, 2, 0, 2, 3, 0, 0, 1]
        wanted = [7, 0, 66, 51, 47, 83, 50, 51]
        wanted += [5, 1, 0, 1, 0, 0]
        wanted += [13, 4, 0, 0, 1, 1, 0, 1, 0, 1, 1, 1, 1, 1]
        wanted += [8, 0, 49, 58, 49, 49, 47, 49, 49]
        wanted += [1, -13]
        wanted += [9, 0, 0, 0, 0, 0, 0, 0, 0, 0]
        wanted += [5, 1, 0, 0, 0, 0]
        wanted += [2, 4, 0]
        wanted += [1, 0, 4, 0, 66, 47, 83, 2, 0, 0, 2, 0, 1]
        self.assertEqual(answers(calls), wanted)

    def test_one_list_of_answers_of_a_collection(self):
        calls = [9, 2, 12] + SQUARE + [10, 12] + SQUARE + [11, 12, 0, 13, 7, 49, 58, 49, 49, 47, 49, 49, 15, 16, 12]
        calls += SQUARE + [14, 7, 49, 58, 49, 49, 47, 49, 49, 11, 15, 12, 0, 9, 65, 0, 9, 0, 0, 1]
        wanted = [5, 1, 0, 0, 0, 0]
        wanted += [2, 0, 1]
        wanted += [2, 1, 1]
        wanted += [8, 0, 49, 58, 49, 49, 47, 49, 49]
        wanted += [1, 1]
        wanted += [2, 1, 0]
        wanted += [5, 0, 0, 0, 1, 1]
        wanted += [1, 1, 1, 0, 1, 0, 1, -15, 1, -9, 1, 0, 7, 0, 66, 51, 47, 83, 50, 51]
        self.assertEqual(answers(calls), wanted)

    def test_one_call(self):
        self.assertEqual(answers([1]), [7, 0, 66, 51, 47, 83, 50, 51])
        self.assertEqual(answers([0, 0]), [1, -1])
        self.assertEqual(answers([2, 0]), [2, 0, 0])
        self.assertEqual(answers([3, 9, 0]), [1, 0])
        self.assertEqual(answers([7, 0, 0]), [1, -10])
        self.assertEqual(answers([9, 9, 0]), [1, 0])
        self.assertEqual(answers([10, 0]), [1, -10])
        self.assertEqual(answers([11]), [1, 0])
        self.assertEqual(answers([12, 0]), [1, -15])
        self.assertEqual(answers([13, 0]), [1, 0])
        self.assertEqual(answers([14, 0]), [1, -15])
        self.assertEqual(answers([15]), [1, 0])
        self.assertEqual(answers([16, 0]), [1, -10])

    def test_eighty_calls(self):
        self.assertEqual(answers([1] * 80), [7, 0, 66, 51, 47, 83, 50, 51] * 80)
        self.assertEqual(ask(*[fate(told(BLINKER))] * 80), [[1, 0, 2, 0, 0]] * 80)
        self.assertEqual(ask(*[add(told(BLINKER))] * 80), [[0, i + 1] for i in range(80)])
        self.assertEqual(ask(*[groups(64, told(BLINKER))] * 80), [[1, 0, 0, 0]] * 80)
        self.assertEqual(ask(*[span(told(BLINKER))] * 80), [[0, 0, -1, 2, 1]] * 80)
        self.assertEqual(answers([11] * 80), [1, 0] * 80)
        self.assertEqual(answers([15] * 80), [1, 0] * 80)

    def test_eighty_calls_of_all_kinds(self):
        for start in range(4):
            calls = [[form(), fate(told(BLOCK)), add(told(BLINKER)), tallies()][(start + i) % 4] for i in range(80)]
            before = [number for call in calls for number in call]
            handed_in = list(before)
            got = ask(*calls)
            self.assertEqual(answers(handed_in), [number for one in got for number in [len(one)] + one])
            self.assertEqual(handed_in, before)
            counted = 0
            for call, answer in zip(calls, got):
                if call == tallies():
                    self.assertEqual(answer, [1, counted] if counted else [0])
                counted += call == add(told(BLINKER))
            self.assertEqual(counted, 20)

    def test_long_rows(self):
        self.assertEqual(answers([0, 15900] + [51] * 15900), [1, -1])
        self.assertEqual(answers([2, 15900] + [1] * 15900), [1, -6])
        self.assertEqual(answers([5, 15900] + [49] * 15900 + [2, 0]), [1, -13, 2, 0, 0])
        self.assertEqual(answers([9, 0, 15900] + [1] * 15900), [1, -6])
        self.assertEqual(answers([10, 15900] + [1] * 15900), [1, -6])
        self.assertEqual(answers([13, 15900] + [49] * 15900 + [2, 0]), [1, 0, 2, 0, 0])
        self.assertEqual(answers([14, 15900] + [49] * 15900 + [2, 0]), [1, -15, 2, 0, 0])
        self.assertEqual(answers([16, 15900] + [1] * 15900), [1, -6])

    def test_no_such_call(self):
        for number in (17, 18, -1, 100, 9223372036854775807):
            self.assertEqual(answers([number]), [1, -100])
            self.assertEqual(answers([2, 0, number]), [2, 0, 0, 1, -100])

    def test_kinds(self):
        for calls in lists():
            got = answers(calls)
            self.assertIs(got.__class__, list)
            for number in got:
                self.assertIs(number.__class__, int)

    def test_package(self):
        self.assertIs(lifenames.objects.answers, answers)


class NothingKeptTest(unittest.TestCase):
    def test_what_is_handed_in_is_not_changed(self):
        for calls in lists():
            before = list(calls)
            answers(calls)
            self.assertEqual(calls, before)

    def test_not_for_a_while_either(self):
        class Watched(list):
            def refuse(self, *arguments):
                raise AssertionError("what was handed in is changed")
            append = extend = insert = pop = remove = clear = sort = reverse = refuse
            __setitem__ = __delitem__ = __iadd__ = __imul__ = refuse

        for calls in lists():
            self.assertEqual(answers(Watched(calls)), answers(calls))

    def test_the_same_again(self):
        for calls in lists():
            first = answers(calls)
            self.assertEqual(answers(calls), first)

    def test_what_is_given_back_is_new(self):
        first = answers([1, 0, 1, 47])
        wanted = list(first)
        first.clear()
        self.assertEqual(answers([1, 0, 1, 47]), wanted)

    def test_each_list_begins_anew(self):
        self.assertEqual(ask(rule("B2/S/3H"))[0], [0])
        self.assertEqual(answers([1]), [7, 0, 66, 51, 47, 83, 50, 51])

    def test_a_refusal_leaves_all(self):
        for text in ("B3/S23", "B2/S/3", "B2/S34H"):
            calm = [form(), fate(told(BLOCK)), name(told(BLINKER)), spins(told(BLOCK)), tallies(), name_at(0), ranked()]
            counted = add(told(BLOCK) if text == "B3/S23" else told(BRAIN_SHIP) if text == "B2/S/3" else TRIO)
            wanted = ask(rule(text), counted, *calm)[2:]
            self.assertEqual(wanted[4], [1, 1])
            for bad in (rule("x"), rule("B5/SV"), rule("B3/S/99"), rule("B0/S"), rule([256]), fate([1]), later(-1, []),
                        name([]), named(""), named([256]), spins([]), kin([], []), rotor([]), groups(-1, []),
                        groups(64, [1]), add([]), add([1]), name_at(1), name_at(-1), tally([256]), forget([256]),
                        forget("1:1"), span([])):
                got = ask(rule(text), counted, bad, *calm)
                self.assertEqual(len(got[2]), 1)
                self.assertLess(got[2][0], 0)
                self.assertEqual(got[3:], wanted)


if __name__ == "__main__":
    unittest.main()
