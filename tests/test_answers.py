"""The interface: how calls and answers are laid, and that nothing is changed or kept."""

import unittest

import lifenames.objects
from lifenames.objects import answers
from tests.helper import (BLINKER, BLOCK, BRAIN_SHIP, GLIDER, PULSAR, R_PENTOMINO, ask, fate, form, kin, later, name,
                          named, rotor, rule, soup, spins, told)

SQUARE = [0, 0, 1, 1, 0, 1, 0, 1, 1, 1, 1, 1]


def lists():
    """Lists of calls, with every call and every refusal among them."""
    glider = told(GLIDER)
    far = told(BRAIN_SHIP)
    plain = [form(), fate(glider), later(10 ** 18, glider), name(glider), named("2:111"), spins(glider),
             kin(glider, glider), rotor(told(PULSAR)), rule("B2/S/3"), form(), fate(far), name(far), later(7, far)]
    refused = [rule(""), rule("B5/SV"), rule("B3/S/99"), rule("B0/S"), rule([300]), fate([1]), later(-1, glider),
               later(129, told(R_PENTOMINO)), name([]), named("2:1"), named([-1]), spins([0, 0, 0]), kin(glider, [7]),
               rotor(glider), form(), fate([]), name([0, 0, 1, 0, 0, 1])]
    soups = [fate(told(soup(seed, 4, 4))) for seed in range(20)]
    return [[number for call in calls for number in call] for calls in (plain, refused, soups, plain + refused)]


class LayoutTest(unittest.TestCase):
    def test_one_list_of_answers(self):
        calls = [1, 2, 12] + SQUARE + [3, 5, 12] + SQUARE + [4, 12] + SQUARE + [5, 3, 49, 58, 49, 6, 12] + SQUARE
        calls += [7, 12] + SQUARE + [12] + SQUARE + [8, 12] + SQUARE + [0, 1, 47, 1, 2, 0, 2, 3, 0, 0, 1]
        wanted = [7, 0, 66, 51, 47, 83, 50, 51]
        wanted += [5, 1, 0, 1, 0, 0]
        wanted += [13, 4, 0, 0, 1, 1, 0, 1, 0, 1, 1, 1, 1, 1]
        wanted += [8, 0, 49, 58, 49, 49, 47, 49, 49]
        wanted += [1, -13]
        wanted += [9, 0, 0, 0, 0, 0, 0, 0, 0, 0]
        wanted += [5, 1, 0, 0, 0, 0]
        wanted += [2, 4, 0]
        wanted += [1, 0, 4, 0, 66, 47, 83, 2, 0, 0, 2, 0, 1]
        self.assertEqual(answers(calls), wanted)

    def test_one_call(self):
        self.assertEqual(answers([1]), [7, 0, 66, 51, 47, 83, 50, 51])
        self.assertEqual(answers([0, 0]), [1, -1])
        self.assertEqual(answers([2, 0]), [2, 0, 0])
        self.assertEqual(answers([3, 9, 0]), [1, 0])
        self.assertEqual(answers([7, 0, 0]), [1, -10])

    def test_eighty_calls(self):
        self.assertEqual(answers([1] * 80), [7, 0, 66, 51, 47, 83, 50, 51] * 80)
        self.assertEqual(ask(*[fate(told(BLINKER))] * 80), [[1, 0, 2, 0, 0]] * 80)

    def test_long_rows(self):
        self.assertEqual(answers([0, 15900] + [51] * 15900), [1, -1])
        self.assertEqual(answers([2, 15900] + [1] * 15900), [1, -6])
        self.assertEqual(answers([5, 15900] + [49] * 15900 + [2, 0]), [1, -13, 2, 0, 0])

    def test_no_such_call(self):
        for number in (17, -1, 100, 9223372036854775807):
            self.assertEqual(answers([number]), [1, -100])
            self.assertEqual(answers([2, 0, number]), [2, 0, 0, 1, -100])

    def test_kinds(self):
        for calls in lists():
            got = answers(calls)
            self.assertIs(got.__class__, list)
            for number in got:
                self.assertIs(number.__class__, int)

    def test_package(self):
        self.assertIs(lifenames.objects.answers, answers)


class NothingKeptTest(unittest.TestCase):
    def test_what_is_handed_in_is_not_changed(self):
        for calls in lists():
            before = list(calls)
            answers(calls)
            self.assertEqual(calls, before)

    def test_not_for_a_while_either(self):
        class Watched(list):
            def refuse(self, *arguments):
                raise AssertionError("what was handed in is changed")
            append = extend = insert = pop = remove = clear = sort = reverse = refuse
            __setitem__ = __delitem__ = __iadd__ = __imul__ = refuse

        for calls in lists():
            self.assertEqual(answers(Watched(calls)), answers(calls))

    def test_the_same_again(self):
        for calls in lists():
            first = answers(calls)
            self.assertEqual(answers(calls), first)

    def test_what_is_given_back_is_new(self):
        first = answers([1, 0, 1, 47])
        wanted = list(first)
        first.clear()
        self.assertEqual(answers([1, 0, 1, 47]), wanted)

    def test_each_list_begins_anew(self):
        self.assertEqual(ask(rule("B2/S/3H"))[0], [0])
        self.assertEqual(answers([1]), [7, 0, 66, 51, 47, 83, 50, 51])

    def test_a_refusal_leaves_all(self):
        for text in ("B3/S23", "B2/S/3", "B2/S34H"):
            calm = [form(), fate(told(BLOCK)), name(told(BLINKER)), spins(told(BLOCK))]
            wanted = ask(rule(text), *calm)[1:]
            for bad in (rule("x"), rule("B5/SV"), rule("B3/S/99"), rule("B0/S"), rule([256]), fate([1]), later(-1, []),
                        name([]), named(""), named([256]), spins([]), kin([], []), rotor([])):
                got = ask(rule(text), bad, *calm)
                self.assertEqual(len(got[1]), 1)
                self.assertLess(got[1][0], 0)
                self.assertEqual(got[2:], wanted)


if __name__ == "__main__":
    unittest.main()
