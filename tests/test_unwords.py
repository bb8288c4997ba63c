import random
import unittest

from markrun.errors import BadWords
from markrun.items import is_item, is_program, rows_of
from markrun.plainly import plain
from markrun.unwords import read_words, row_at, word_fault
from markrun.words import word_of_row, written
from programs import program, rows_at_the_ends, some_program
from telling import TellingCase, in_short
from wording import KINDS, MARKS, NEAR, far_words, jumps, near_word

GREATEST = 4294967295
STOP = 0
SET = 0x08000001
FAR_JUMP = 0xA8000000

# The bits below 27 that may be set, by the number of the kind.
REGISTERS = [21, 22, 23, 24, 25, 26]
FREE = {0: [], 21: [], 18: list(range(5))}
FREE.update({kind: list(range(16)) + [24, 25, 26] for kind in (1, 2)})
FREE.update({kind: REGISTERS for kind in range(3, 12)})
FREE.update({kind: list(range(5)) + [24, 25, 26] for kind in (12, 13)})
FREE.update({kind: list(range(8)) + REGISTERS for kind in range(14, 18)})
FREE.update({kind: list(range(5)) + [24, 25] for kind in (19, 20)})
FREE.update({kind: [24, 25] for kind in (22, 23)})


def nameless(row):
    return row[:-1] if row[0] in NEAR else row


class RowAt(TellingCase):
    def test_rows_that_are_no_jumps(self):
        for row in rows_at_the_ends():
            self.assert_told(self.tell(row_at, [word_of_row(row)], 0), (row, 1, None))
        words = [word_of_row(row) for row in rows_at_the_ends()]
        for address, row in enumerate(rows_at_the_ends()):
            self.assert_told(row_at(words, address), (row, address + 1, None))

    def test_near_jumps(self):
        for jump in jumps():
            for distance in range(-16, 16):
                for address in (0, 1, 20):
                    words = [SET] * address + [near_word(jump, distance), STOP]
                    wanted = (nameless(jump), address + 1, address + distance)
                    self.assert_told(self.tell(row_at, words, address), wanted)

    def test_far_jumps(self):
        for jump in jumps():
            for distance in (0, 1, 2, 15, 16, 1000, 2147483647, -1, -16, -17, -1000, -2147483648):
                for address in (0, 1, 20):
                    words = [SET] * address + far_words(jump, distance)
                    wanted = (nameless(jump), address + 2, address + distance)
                    self.assert_told(self.tell(row_at, words, address), wanted)

    def test_every_address_of_written_words(self):
        for seed in range(20):
            items = some_program(seed, rows=60, jumps=4, labels=8)
            words = written(items)
            address = 0
            for row in rows_of(items):
                told = self.tell(row_at, words, address)
                self.assert_told(told[0], nameless(row))
                self.assertEqual(told[2] is None, row[0] not in NEAR)
                self.assertIn(told[1] - address, (1, 2))
                address = told[1]
            self.assertEqual(address, len(words))

    def test_a_far_jumps_second_word_where_it_tells_a_row(self):
        self.assert_told(self.tell(row_at, [FAR_JUMP, 0, STOP], 1), (("stop",), 2, None))
        self.assert_told(self.tell(row_at, [FAR_JUMP, SET], 0), (("jump",), 2, SET))
        self.assert_told(self.tell(row_at, [FAR_JUMP, SET], 1), (("set", 0, 1), 2, None))
        self.assert_told(self.tell(row_at, [FAR_JUMP, FAR_JUMP, 3], 1), (("jump",), 3, 4))
        self.assert_told(self.tell(row_at, [FAR_JUMP, 0x9900001F], 1), (("when", "nought"), 2, 0))
        self.refuse(BadWords, row_at, [FAR_JUMP, 17], 1)
        self.refuse(BadWords, row_at, [FAR_JUMP, GREATEST], 1)
        self.refuse(BadWords, row_at, [FAR_JUMP, FAR_JUMP], 1)

    def test_no_word_at_the_address(self):
        for words in ([], [STOP], [SET] * 20, [FAR_JUMP, 2]):
            for address in (-1, -2, -len(words) - 1, -len(words) or -1, len(words), len(words) + 1, 1000,
                            GREATEST, 10 ** 5000, -10 ** 5000):
                with self.subTest(words=len(words), address=in_short(address)):
                    self.refuse(BadWords, row_at, words, address)

    def test_a_far_jump_without_its_second_word(self):
        for jump in jumps():
            first = far_words(jump, 0)[0]
            self.refuse(BadWords, row_at, [first], 0)
            self.refuse(BadWords, row_at, [STOP, STOP, first], 2)
            self.assert_told(self.tell(row_at, [first, 0], 0), (nameless(jump), 2, 0))

    def test_kinds_that_there_are_not(self):
        for kind in range(24, 32):
            for low in (0, 1, 1 << 21, 1 << 24, (1 << 27) - 1):
                self.refuse(BadWords, row_at, [(kind << 27) + low, 0], 0)

    def test_the_mark_that_there_is_not(self):
        for kind in (19, 20, 22, 23):
            for mark in range(3):
                told = self.tell(row_at, [(kind << 27) + (mark << 24), 0], 0)
                self.assert_told(told[0], ("when" if kind in (19, 22) else "unless", MARKS[mark]))
            self.refuse(BadWords, row_at, [(kind << 27) + (3 << 24), 0], 0)
            self.refuse(BadWords, row_at, [(kind << 27) + (3 << 24) + 1, 0], 0)

    def test_each_bit_of_each_kind(self):
        for kind in range(24):
            for bit in range(27):
                words = [(kind << 27) + (1 << bit), 0]
                if bit in FREE[kind]:
                    self.assertIn(row_at(words, 0)[0][0], KINDS + tuple(NEAR))
                else:
                    self.refuse(BadWords, row_at, words, 0)

    def test_a_bit_that_is_to_be_0_in_a_row_with_others_set(self):
        for kind in range(24):
            filled = (kind << 27) + sum(1 << bit for bit in FREE[kind])
            if 25 in FREE[kind] and 26 not in FREE[kind]:
                # Mark 3 would be refused by itself.
                filled -= 1 << 24
            row_at([filled, 0], 0)
            for bit in range(27):
                if bit not in FREE[kind]:
                    self.refuse(BadWords, row_at, [filled + (1 << bit), 0], 0)

    def test_any_word_tells_a_row_that_is_written_so_or_is_refused(self):
        chance = random.Random(11)
        met = {True: 0, False: 0}
        for turn in range(4000):
            kind = chance.randrange(32)
            word = kind << 27
            for bit in FREE.get(kind, [0, 20]):
                word += chance.randrange(2) << bit
            word |= chance.choice((0, 0, 0, 1 << chance.randrange(27)))
            try:
                row, following, target = row_at([word, 5], 0)
            except BadWords:
                met[False] += 1
                continue
            met[True] += 1
            if target is None:
                self.assertIs(is_item(row), True)
                self.assertEqual(word_of_row(row), word)
            else:
                self.assertIs(is_item(row + ("a",)), True)
                wanted = far_words(row, 5) if following == 2 else [near_word(row, target), 5]
                self.assertEqual([word, 5], wanted)
        self.assertGreater(min(met.values()), 500)


class ReadWords(TellingCase):
    def assert_read(self, words, text):
        with self.subTest(words=words):
            self.assert_told(self.tell(read_words, words), program(text))
            self.assertIsNone(self.tell(word_fault, words))

    def test_nothing(self):
        self.assert_read([], "")

    def test_rows(self):
        self.assert_read([STOP], "stop")
        self.assert_read([SET, 0x7140001E, STOP], "set r0 1, load r1 r2 30, stop")

    def test_jumps(self):
        self.assert_read([0x90000000], "a:, jump a")
        self.assert_read([0x90000001], "jump a, a:")
        self.assert_read([0x90000002, STOP], "jump a, stop, a:")
        self.assert_read([0x90000001, 0x9A00001F, 0xA1000001], "a:, jump b, b:, when sign a, unless nought c, c:")

    def test_labels_in_the_order_of_places(self):
        self.assert_read(
            [0x90000003, 0x90000003, 0x9000001F, STOP, STOP], "jump b, a:, jump c, jump a, b:, stop, c:, stop"
        )

    def test_a_far_jump_that_could_be_near(self):
        self.assert_read([FAR_JUMP, 0], "a:, jump a")
        self.assert_read([FAR_JUMP, 2], "jump a, a:")
        self.assert_read([FAR_JUMP, 3, STOP], "jump a, stop, a:")
        self.assert_read([STOP, 0xB2000000, GREATEST], "a:, stop, when sign a")

    def test_over_far_jumps(self):
        # Rows stand at 0, 2, 3; the end is 5.
        self.assert_read([FAR_JUMP, 3, 0x9000001E, 0xB8000000, GREATEST], "a:, jump c, b:, jump a, c:, unless carry b")
        self.assert_read([0xB1000000, 5, STOP, 0xB9000000, 0xFFFFFFFD], "a:, when nought b, stop, unless nought a, b:")

    def test_a_second_word_that_looks_like_a_row_is_none(self):
        self.assert_read([FAR_JUMP, 2, STOP], "jump a, a:, stop")
        self.assert_read([STOP, FAR_JUMP, GREATEST, STOP], "a:, stop, jump a, stop")

    def test_written_words(self):
        programs = [[], rows_at_the_ends(), program("x:, y:"), program("y:, x:, jump x, z:, jump z, w:")]
        programs.extend(some_program(seed, rows=3 * seed, jumps=seed % 8, labels=seed % 12) for seed in range(70))
        programs.append(some_program(1, rows=380, jumps=5, labels=15))
        for items in programs:
            self.assert_told(self.tell(read_words, written(items)), plain(items))
            self.assertIsNone(self.tell(word_fault, written(items)))
            self.assert_told(written(read_words(written(items))), written(items))

    def test_the_list_is_the_askers_own(self):
        words = [0x90000000, STOP]
        first = read_words(words)
        words.clear()
        self.assert_told(first, program("a:, jump a, stop"))


class WordFaults(TellingCase):
    def assert_fault(self, words, address):
        with self.subTest(words=words):
            self.assert_told(self.tell(word_fault, words), address)
            self.refuse(BadWords, read_words, words)

    def test_no_row(self):
        for wrong in (GREATEST, 0xC0000000, 1, 0x9B000000, 0x9C000000, 0x90000020, 0x08010000, 0xA8000001):
            self.assert_fault([wrong], 0)
            self.assert_fault([STOP, SET, wrong], 2)
            self.assert_fault([wrong, wrong], 0)
            self.assert_fault([FAR_JUMP, 2, wrong], 2)

    def test_a_far_jump_without_its_second_word(self):
        for first in (FAR_JUMP, 0xB0000000, 0xBA000000):
            self.assert_fault([first], 0)
            self.assert_fault([STOP, SET, first], 2)
            self.assert_fault([FAR_JUMP, 0, first], 2)

    def test_no_row_goes_ahead_of_a_jump_that_leads_nowhere(self):
        self.assert_fault([0x9000000F, STOP, GREATEST], 2)
        self.assert_fault([0x9000001F, FAR_JUMP], 1)
        self.assert_fault([GREATEST, 0x9000000F], 0)

    def test_jumps_below_nought_and_beyond_the_end(self):
        self.assert_fault([0x9000001F], 0)
        self.assert_fault([0x90000002], 0)
        self.assert_fault([STOP, 0x9800001E], 1)
        self.assert_fault([STOP, 0xA0000002], 1)
        self.assert_fault([STOP, 0x90000010], 1)
        for second in (GREATEST, 3, 4, 0x7FFFFFFF, 0x80000000):
            self.assert_fault([FAR_JUMP, second], 0)
        self.assert_fault([STOP, 0xB0000000, 0xFFFFFFFE], 1)
        self.assert_fault([STOP, 0xB0000000, 3], 1)

    def test_to_the_end_is_no_fault(self):
        for words in ([0x90000001], [0x90000002, STOP], [FAR_JUMP, 2], [FAR_JUMP, 3, STOP], [STOP, 0x90000001]):
            self.assertIsNone(self.tell(word_fault, words))

    def test_into_a_far_jumps_second_word(self):
        # It tells a row by itself, but no row of the program stands there.
        self.assert_fault([0x90000002, FAR_JUMP, STOP, STOP], 0)
        self.assert_fault([FAR_JUMP, 1], 0)
        self.assert_fault([FAR_JUMP, 2, 0x9000001F], 2)
        self.assert_fault([FAR_JUMP, 0, STOP, FAR_JUMP, 0xFFFFFFFE], 3)
        self.assertIsNone(self.tell(word_fault, [FAR_JUMP, 2, 0x9000001E]))

    def test_the_first_of_several_such_jumps(self):
        self.assert_fault([STOP, 0x90000000, 0x9000000F, 0x9000000F], 2)
        self.assert_fault([STOP, FAR_JUMP, 100, 0x9000001F, 0x9000000F], 1)
        self.assert_fault([0x9000001F, 0x9000000F], 0)

    def test_words_by_chance_against_the_plainest_reading(self):
        chance = random.Random(5)
        met = {"read": 0, "refused": 0}
        for seed in range(300):
            words = written(some_program(seed, rows=30, jumps=4, labels=5))
            for turn in range(chance.randrange(3)):
                place = chance.randrange(len(words))
                words[place] = chance.choice((words[place] ^ (1 << chance.randrange(32)), chance.choice(words), 0))
            wanted = self.plainest_fault(words)
            self.assert_told(word_fault(words), wanted)
            if wanted is None:
                met["read"] += 1
                self.assertIs(is_program(read_words(words)), True)
            else:
                met["refused"] += 1
                self.refuse(BadWords, read_words, words)
        self.assertGreater(min(met.values()), 50)

    def plainest_fault(self, words):
        starts, leads, address = [], [], 0
        while address < len(words):
            try:
                row, following, target = row_at(words, address)
            except BadWords:
                return address
            starts.append(address)
            leads.append((address, target))
            address = following
        for address, target in leads:
            if target is not None and target not in starts + [len(words)]:
                return address
        return None


if __name__ == "__main__":
    unittest.main()
