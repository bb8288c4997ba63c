import random
import unittest

from markrun.errors import BadNumber
from markrun.hexes import hex_text, read_hex
from refusals import assert_refused

TOLD = (
    (0, "00000000"),
    (1, "00000001"),
    (10, "0000000a"),
    (15, "0000000f"),
    (16, "00000010"),
    (305419896, "12345678"),
    (2596069104, "9abcdef0"),
    (3735928559, "deadbeef"),
    (2147483647, "7fffffff"),
    (2147483648, "80000000"),
    (4294967295, "ffffffff"),
)

REFUSED = (
    "", "0", "f", "1234567", "0000000", "123456789", "000000000", "0000000000000000",
    "DEADBEEF", "deadbeeF", "A0000000", "0000000g", "g0000000", "0000/000", "0000:000", "0000`000",
    "1234 678", " 2345678", "1234567 ", "        ", " 12345678", "12345678 ", "\t2345678", "1234567\t",
    "+1234567", "-1234567", "-12345678", "+12345678", "0x123456", "0x12345678", "0X123456",
    "1234_678", "1_234567", "_1234567", "12345678\n", "1234567\n", "\n1234567", "\n12345678", "1234\n678",
    "1234.678", "12345678;", "00000000 00000000",
)


class Hexes(unittest.TestCase):
    def test_eight_signs_there_and_back(self):
        for word, text in TOLD:
            with self.subTest(text=text):
                self.assertIs(type(hex_text(word)), str)
                self.assertEqual(hex_text(word), text)
                self.assertIs(type(read_hex(text)), int)
                self.assertEqual(read_hex(text), word)

    def test_every_sign_at_every_place(self):
        for place in range(8):
            for number, sign in enumerate("0123456789abcdef"):
                text = "0" * (7 - place) + sign + "0" * place
                self.assertEqual(hex_text(number * 16 ** place), text)
                self.assertEqual(read_hex(text), number * 16 ** place)

    def test_words_by_chance(self):
        chance = random.Random(5)
        for turn in range(200):
            word = chance.randrange(4294967296)
            self.assertEqual(hex_text(word), "%08x" % word)
            self.assertEqual(read_hex(hex_text(word)), word)

    def test_other_texts_are_refused(self):
        for text in REFUSED:
            with self.subTest(text=text):
                assert_refused(self, BadNumber, read_hex, text)

    def test_each_sign_but_the_sixteen_is_refused_at_each_place(self):
        for sign in "\t\n" + "".join([chr(number) for number in range(32, 127)]):
            if sign in "0123456789abcdef":
                continue
            for place in range(8):
                with self.subTest(sign=sign, place=place):
                    assert_refused(self, BadNumber, read_hex, "0" * place + sign + "0" * (7 - place))


if __name__ == "__main__":
    unittest.main()
