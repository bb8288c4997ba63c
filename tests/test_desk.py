import random
import unittest

from markrun.desk import assembled, assembled_short, left_by, text_of_words
from markrun.errors import BadState, BadText, BadWords
from markrun.plainly import plain
from markrun.shorter import short
from markrun.texts import read, shown
from markrun.words import written
from programs import some_program
from running import some_state
from telling import TellingCase

NOTHING = (False, False, False)
COUNT = "set r1 1 ; one\nagain:\n sub r0 r1\n\tunless nought again ; on\nstop\n"
BAD_TEXTS = ("halt", "jump a", "a:\na:\n", "set r0 65536", "stop stop", "set r8 0\n", "set r0 " + "1" * 5000)

# Adds (or takes) the words from r1 on to (from) those from r0 on, so many of them as r2 tells.
GREAT = """
    set r7 1
    set r6 4
    test r7 r7          ; carry is False now
    right r5 1          ; r5 keeps carry as a bit from one turn to the next
    set r5 0
again:
    loadw r3 r0 0
    loadw r4 r1 0
    right r5 1          ; carry anew
    DEED r3 r4
    storew r3 r0 0
    set r5 0
    unless carry on
    set r5 1
on:
    add r0 r6
    add r1 r6
    sub r2 r7
    unless nought again
"""


class Assembled(TellingCase):
    def test_examples(self):
        self.assert_told(self.tell(assembled, ""), [])
        self.assert_told(self.tell(assembled, "; nothing\n\na:\n"), [])
        self.assert_told(self.tell(assembled, "stop"), [0])
        self.assert_told(self.tell(assembled, COUNT), [0x09000001, 0x30200000, 0xA100001F, 0])

    def test_short_examples(self):
        self.assert_told(self.tell(assembled_short, ""), [])
        self.assert_told(self.tell(assembled_short, COUNT), [0x09000001, 0x30200000, 0xA100001F, 0])
        self.assert_told(self.tell(assembled_short, "jump a\nset r0 9\na: ; here\ncopy r1 r1\nset r0 1\nset r0 2"),
                         [0x08000002])

    def test_by_chance(self):
        for seed in range(30):
            items = some_program(seed, rows=2 * seed, labels=5)
            self.assert_told(self.tell(assembled, shown(items)), written(items))
            self.assert_told(self.tell(assembled_short, shown(items)), written(short(items)))

    def test_bad_texts(self):
        for text in BAD_TEXTS:
            self.refuse(BadText, assembled, text)
            self.refuse(BadText, assembled_short, text)

    def test_bad_text_in_rows_that_are_not_reached(self):
        self.refuse(BadText, assembled_short, "stop\nhalt")

    def test_text_of_words(self):
        self.assert_told(self.tell(text_of_words, []), "")
        self.assert_told(self.tell(text_of_words, [0]), "stop\n")
        self.assert_told(
            self.tell(text_of_words, [0x09000001, 0x30200000, 0xA100001F, 0]),
            "set r1 1\na:\nsub r0 r1\nunless nought a\nstop\n",
        )
        self.assert_told(self.tell(text_of_words, [0xA8000000, 2]), "jump a\na:\n")

    def test_bad_words(self):
        for words in ([1], [0xA8000000], [0x9000001F], [0, 0xFFFFFFFF], [0xA8000000, 1]):
            self.refuse(BadWords, text_of_words, words)

    def test_text_to_words_and_back(self):
        for text in ("", COUNT, GREAT.replace("DEED", "addc")):
            self.assert_told(text_of_words(assembled(text)), shown(plain(read(text))))
        for seed in range(40):
            items = some_program(seed, rows=3 * seed, jumps=seed % 6, labels=6)
            text = shown(items)
            self.assert_told(text_of_words(assembled(text)), shown(plain(items)))
            self.assert_told(text_of_words(assembled_short(text)), shown(short(items)))

    def test_the_longest_texts(self):
        text = "a:\n" + "when carry a\n" * 390
        self.assertEqual(len(assembled(text)), 390 * 2 - 17)
        self.assert_told(text_of_words(assembled(text)), text)


class LeftBy(TellingCase):
    def test_a_text_that_stands(self):
        self.assert_told(
            self.tell(left_by, COUNT, [3, 0, 0, 0, 0, 0, 0, 0]),
            (True, 7, [0, 1, 0, 0, 0, 0, 0, 0], (False, True, False), []),
        )
        self.assert_told(self.tell(left_by, ""), (True, 0, [0] * 8, NOTHING, []))
        self.assert_told(self.tell(left_by, "stop"), (True, 0, [0] * 8, NOTHING, []))
        self.assert_told(self.tell(left_by, "set r3 4"), (True, 1, [0, 0, 0, 4, 0, 0, 0, 0], NOTHING, []))

    def test_a_text_that_doesnt_within_most_steps(self):
        self.assert_told(self.tell(left_by, "a:\njump a"), (False, 1000, [0] * 8, NOTHING, []))
        for most, stands in ((0, False), (1, False), (6, False), (7, True), (8, True), (1000, True)):
            told = self.tell(left_by, COUNT, [3, 0, 0, 0, 0, 0, 0, 0], None, most)
            self.assert_told(told[:2], (stands, min(most, 7)))
        self.assert_told(left_by("stop", None, None, 0), (True, 0, [0] * 8, NOTHING, []))

    def test_of_a_thousand_steps_by_itself(self):
        for times, stands in ((499, True), (500, False), (501, False)):
            # One step ahead, then two for each time round.
            told = left_by(COUNT, [times, 0, 0, 0, 0, 0, 0, 0])
            self.assert_told(told[:2], (stands, min(1000, 1 + 2 * times)))

    def test_each_argument_handed_in_and_left_out(self):
        text = "load r1 r0 0\nstore r2 r0 1\nstop"
        registers, memory = [5, 6, 7, 8, 9, 10, 11, 12], [(6, 1), (5, 3), (0, 0)]
        both = (True, 2, [5, 3, 7, 8, 9, 10, 11, 12], NOTHING, [(5, 3), (6, 7)])
        self.assert_told(self.tell(left_by, text), (True, 2, [0] * 8, NOTHING, []))
        self.assert_told(self.tell(left_by, text, registers, memory), both)
        self.assert_told(self.tell(left_by, text, registers, memory, 2), both)
        self.assert_told(left_by(text=text, registers=registers, memory=memory, most=2), both)
        self.assert_told(
            left_by(text, registers=registers), (True, 2, [5, 0, 7, 8, 9, 10, 11, 12], NOTHING, [(6, 7)])
        )
        self.assert_told(left_by(text, memory=[(0, 9)]), (True, 2, [0, 9, 0, 0, 0, 0, 0, 0], NOTHING, [(0, 9)]))
        self.assert_told(left_by(text, memory=[(0, 9)], most=0), (False, 0, [0] * 8, NOTHING, [(0, 9)]))
        self.assert_told(left_by(text, most=1), (False, 1, [0] * 8, NOTHING, []))
        self.assert_told(
            left_by(most=1, memory=memory, registers=registers, text=text),
            (False, 1, [5, 3, 7, 8, 9, 10, 11, 12], NOTHING, [(5, 3), (6, 1)]),
        )
        self.assert_told((registers, memory), ([5, 6, 7, 8, 9, 10, 11, 12], [(6, 1), (5, 3), (0, 0)]))

    def test_bad_text_ahead_of_bad_state(self):
        for text in BAD_TEXTS:
            self.refuse(BadText, left_by, text)
            self.refuse(BadText, left_by, text, [0] * 7)
            self.refuse(BadText, left_by, text, None, [(0, 256)])
            self.refuse(BadText, left_by, text, (), ())

    def test_bad_state(self):
        for registers in ([0] * 7, [0] * 9, (0,) * 8, [True] * 8, [4294967296] * 8, 0, False, ""):
            self.refuse(BadState, left_by, "stop", registers)
            self.refuse(BadState, left_by, "", registers, [], 0)
        for memory in ([(0, 256)], [(65536, 0)], [(1, 1), (1, 1)], [[1, 1]], (), ((1, 1),), 0, False, ""):
            self.refuse(BadState, left_by, "stop", None, memory)
            self.refuse(BadState, left_by, "", [0] * 8, memory, 0)

    def test_a_shorter_text_leaves_the_same(self):
        stood = 0
        for seed in range(120):
            text = shown(some_program(seed, rows=10 + seed % 40, jumps=seed % 5, stops=seed % 3, labels=5))
            registers, memory = some_state(seed)
            told = left_by(text, registers, memory)
            if told[0]:
                stood += 1
                other = left_by(text_of_words(assembled_short(text)), registers, memory)
                self.assertLessEqual(other[1], told[1])
                self.assert_told((other[0],) + other[2:], (told[0],) + told[2:])
                self.assert_told(left_by(text_of_words(assembled(text)), registers, memory), told)
        self.assertGreater(stood, 40)


class GreatNumbers(TellingCase):
    def pairs(self, number, words, at):
        return [(at + place, byte) for place, byte in enumerate(number.to_bytes(4 * words, "little"))]

    def number_at(self, memory, words, at):
        bytes_there = dict(memory)
        return int.from_bytes(bytes(bytes_there.get(at + place, 0) for place in range(4 * words)), "little")

    def reckoned(self, deed, one, other, words):
        """What is left of the first number, and the last carry, by the text itself and by its shorter one."""
        text = GREAT.replace("DEED", deed)
        memory = self.pairs(one, words, 1000) + self.pairs(other, words, 65000)
        registers = [1000, 65000, words, 0, 0, 0, 0, 0]
        told = left_by(text, registers, memory)
        self.assertIs(told[0], True)
        shorter = left_by(text_of_words(assembled_short(text)), registers, memory)
        self.assertIs(shorter[0], True)
        self.assertLess(shorter[1], told[1])
        self.assert_told(shorter[2:], told[2:])
        self.assertEqual(self.number_at(told[4], words, 65000), other)
        return self.number_at(told[4], words, 1000), told[2][5]

    def test_added_and_taken_word_by_word(self):
        chance = random.Random(3)
        for words in (1, 2, 3, 8):
            beyond = 2 ** (32 * words)
            numbers = [0, 1, beyond - 1, beyond // 2, 2 ** 32 - 1] + [chance.randrange(beyond) for turn in range(4)]
            for one in numbers:
                for other in numbers:
                    whole = one + other
                    self.assertEqual(self.reckoned("addc", one, other, words), (whole % beyond, int(whole >= beyond)))
                    whole = one - other
                    self.assertEqual(self.reckoned("subc", one, other, words), (whole % beyond, int(whole < 0)))


if __name__ == "__main__":
    unittest.main()
