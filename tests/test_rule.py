"""Calls 0 and 1: rule and form."""

import itertools
import random
import re
import unittest

from tests.helper import BLINKER, BLOCK, ask, fate, form, rule, text_of, told

READ = [
    ("/", "B/S"),
    ("B/S", "B/S"),
    ("B3/S23", "B3/S23"),
    ("b3/s32m", "B3/S23"),
    ("23/3", "B3/S23"),
    ("B3/S23/2", "B3/S23"),
    ("23/3/C2M", "B3/S23"),
    ("32/3/g2", "B3/S23"),
    ("23/", "B/S23"),
    ("/3", "B3/S"),
    ("//3", "B/S/C3"),
    ("B2/S/3", "B2/S/C3"),
    ("B2/S/G3", "B2/S/C3"),
    ("b2/s345/c4", "B2/S345/C4"),
    ("345/2/4", "B2/S345/C4"),
    ("B2/S/64", "B2/S/C64"),
    ("/2/C64h", "B2/S/C64H"),
    ("B4321/S43210V", "B1234/S01234V"),
    ("B/SV", "B/SV"),
    ("/V", "B/SV"),
    ("B2/S34H", "B2/S34H"),
    ("34/2h", "B2/S34H"),
    ("B6/S6/3H", "B6/S6/C3H"),
    ("B87654321/S876543210", "B12345678/S012345678"),
    ("B8/S8M", "B8/S8"),
    ("B1/S/10v", "B1/S/C10V"),
]

REFUSED = [
    (-1, ["", "B3/S23/02", "B9/S", "B33/S", "B3/23", "B3/S23/", "B5/S9V", "B", "b3", "S", "23", "B3S23", "B3/S23/0",
          "B3/S23/C", "B3/S23/G", "B3/S23/CG3", "B3/S23/CC3", "B3/S23/3C", "B3/S23/3/", "B3/S23/3/3", "B3/S23M3",
          "B3/S23VV", "B3/S23MV", "B3/S23V/3", "B3V/S23", "B3/S23/V", "B3/S23/CV", "B3/S23X", "B3/S23/3X",
          " B3/S23", "B3/S23 ", "B3 /S23", "B3/S23\n", "S23/B3", "23/S3", "23/B3", "B23/3", "BB3/S23", "B3/SS23",
          "B3/S23//3", "23/3/3/3", "9/3", "3/9", "22/3", "3/22", "B3/S233", "B3/S23/-3", "B3/S23/+3", "B3/S23/3.",
          "B3/S2\xb2", "B3/S23/\xb2", "\x00", "B3/S23\x00", "\xff", "B3/S23?", "?", "C3", "M", "/C3", "//C", "///",
          "B3,S23", "B3\\S23", "B3/S:", "B3/S23[", "B3/S23`", "B3/S23{", "B3/S23@", "B3/S2/", "B3/s23/c",
          "B0123456788/S", "B/S99", "B9/SV", "B5/S9/99V", "B33/S/99"]),
    (-2, ["B5/S/99V", "B5/SV", "B/S5V", "5/V", "/5v", "B7/SH", "B/S8H", "78/H", "B8/S/1V", "B05/SV", "B12345/SV",
          "B7/S/3H", "B5/S/1000V"]),
    (-3, ["B3/S/99", "B3/S/1", "B3/S/65", "B3/S/C1V", "B3/S/100", "B0/S/65", "B0/S/1", "B3/S/640",
          "23/3/1", "23/3/65h", "B3/S/" + "2" * 4000, "B3/S/G1" + "0" * 15000 + "V", "//18446744073709551618"]),
    (-4, ["B0/S", "B03/S23", "/0", "23/30", "B0/S/3", "B0/S/64V", "B10/S0H", "8/80"]),
]

SHAPE = re.compile(rb"(?:B([0-9]*)/S([0-9]*)|([0-9]*)/([0-9]*))(?:/[CG]?([1-9][0-9]*))?([MVH]?)", re.IGNORECASE)
SIZES = {b"": 8, b"M": 8, b"V": 4, b"H": 6}


def reckoned(text):
    """The rule's form, or the refusal, reckoned by a pattern of the whole text."""
    match = SHAPE.fullmatch(text)
    if match is None:
        return -1
    births = match[1] if match[1] is not None else match[4]
    stays = match[2] if match[2] is not None else match[3]
    for digits in (births, stays):
        if b"9" in digits or len(set(digits)) < len(digits):
            return -1
    letter = match[6].upper()
    if any(digit - 48 > SIZES[letter] for digit in births + stays):
        return -2
    states = match[5] or b"2"
    if len(states) > 2 or not 2 <= int(states) <= 64:
        return -3
    if b"0" in births:
        return -4
    middle = "" if states == b"2" else "/C" + states.decode()
    ending = letter.decode().replace("M", "")
    return "B" + "".join(sorted(births.decode())) + "/S" + "".join(sorted(stays.decode())) + middle + ending


class RuleTest(unittest.TestCase):
    def check(self, texts):
        """What rule answers to each of the texts, and form behind it, is what's reckoned."""
        texts = list(texts)
        for start in range(0, len(texts), 25):
            some = texts[start:start + 25]
            calls = []
            for text in some:
                calls += [rule(""), rule(list(text)), form()]
            got = ask(*calls)
            before = "B3/S23"
            for i, text in enumerate(some):
                wanted = reckoned(text)
                self.assertEqual(got[3 * i], [-1])
                if isinstance(wanted, int):
                    self.assertEqual(got[3 * i + 1], [wanted], text)
                else:
                    self.assertEqual(got[3 * i + 1], [0], text)
                    before = wanted
                self.assertEqual(text_of(got[3 * i + 2]), before, text)

    def test_first_rule(self):
        self.assertEqual(text_of(ask(form())[0]), "B3/S23")
        self.assertEqual(ask(fate(told(BLINKER)))[0], [1, 0, 2, 0, 0])

    def test_read(self):
        for text, wanted in READ:
            with self.subTest(text=text):
                self.assertEqual(reckoned(text.encode()), wanted)
                got = ask(rule(text), form())
                self.assertEqual(got[0], [0])
                self.assertEqual(text_of(got[1]), wanted)

    def test_form_is_read_as_the_rule(self):
        for _, wanted in READ:
            got = ask(rule(wanted), form())
            self.assertEqual(got[0], [0])
            self.assertEqual(text_of(got[1]), wanted)

    def test_refused(self):
        for number, texts in REFUSED:
            for text in texts:
                with self.subTest(text=text[:40]):
                    self.assertEqual(reckoned(text.encode("latin-1")), number)
                    self.assertEqual(ask(rule(text))[0], [number])

    def test_refusal_leaves_the_rule(self):
        for number, texts in REFUSED:
            for text in texts:
                got = ask(rule("B2/S/3H"), rule(text), form(), fate([0, 0, 2]))
                self.assertEqual(got[1], [number])
                self.assertEqual(text_of(got[2]), "B2/S/C3H")
                self.assertEqual(got[3], [0, 1])

    def test_byte_out_of_range(self):
        for byte in (-1, 256, -9223372036854775808, 9223372036854775807, 1000):
            for text in ([byte], [66, 51, 47, 83, byte], [byte] + [57] * 9000, list(b"B0/S") + [byte],
                         list(b"B3/S/99") + [byte], list(b"B5/SV") + [byte]):
                got = ask(rule("B2/S/3V"), rule(text), form())
                self.assertEqual(got[1], [-100])
                self.assertEqual(text_of(got[2]), "B2/S/C3V")

    def test_rule_holds_from_now_on(self):
        got = ask(fate([0, 0, 1]), rule("B/S0"), fate([0, 0, 1]), rule("/0"), fate([0, 0, 1]), rule("/"),
                  fate([0, 0, 1]), rule("B3/S23"), fate(told(BLOCK)))
        self.assertEqual(got, [[0, 1], [0], [1, 0, 1, 0, 0], [-4], [1, 0, 1, 0, 0], [0], [0, 1], [0], [1, 0, 1, 0, 0]])

    def test_all_short_texts(self):
        for length in range(5):
            self.check(bytes(text) for text in itertools.product(b"Bs/3509CvH", repeat=length))

    def test_every_byte_everywhere(self):
        for text in (b"B3/S23/C4V", b"23/3/g5h"):
            for i in range(len(text) + 1):
                self.check(text[:i] + bytes([byte]) + text[i:] for byte in range(256))
                self.check(text[:i] + bytes([byte]) + text[i + 1:] for byte in range(256))

    def test_mixed_texts(self):
        source = random.Random(31)
        texts = []
        for _ in range(4000):
            first = "".join(source.sample("0123456789", source.randrange(6)))
            second = "".join(source.sample("012345678", source.randrange(6)))
            text = source.choice(["B%s/S%s", "%s/%s", "b%s/S%s", "B%s/s%s", "B%s/%s", "%s/S%s"]) % (first, second)
            text += source.choice(["", "", "/", "/C", "/g", "/c"])
            text += source.choice(["", "", str(source.randrange(80)), "2", "64", "65", "1"])
            text += source.choice(["", "", "M", "v", "H", "V", "h", "x"])
            texts.append(text.encode())
        self.check(texts)


if __name__ == "__main__":
    unittest.main()
