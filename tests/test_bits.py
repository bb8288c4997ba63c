import random
import unittest

from markrun.bits import (
    added, bytes_of, moved_left, moved_right, part, signed, taken, unsigned, with_part, word_of,
)
from markrun.errors import BadNumber
from refusals import assert_refused

GREATEST = 4294967295
HALF = 2147483648
BEYOND = 4294967296


def edge_words():
    """0, the powers of two and those less one, the greatest, and some ordinary ones."""
    words = {0, GREATEST, 10, 1000, 305419896, 2779096485, 3735928559}
    for bit in range(32):
        words.update({1 << bit, (1 << bit) - 1})
    return sorted(words)


def some_words(seed, count):
    chance = random.Random(seed)
    return [chance.randrange(BEYOND) for turn in range(count)]


def bit_list(word):
    """A word's 32 bits, the lowest first, by halving alone."""
    bits = []
    for bit in range(32):
        bits.append(word % 2)
        word //= 2
    return bits


def of_bits(bits):
    number = 0
    for bit in reversed(bits):
        number = number * 2 + bit
    return number


class BitsCase(unittest.TestCase):
    def assert_number(self, told, number):
        self.assertIs(type(told), int)
        self.assertEqual(told, number)

    def assert_pair(self, told, word, truth):
        self.assertIs(type(told), tuple)
        self.assertEqual(len(told), 2)
        self.assert_number(told[0], word)
        self.assertIs(told[1], truth)


class Added(BitsCase):
    def test_ordinary(self):
        self.assert_pair(added(2, 3, False), 5, False)
        self.assert_pair(added(2, 3, True), 6, False)
        self.assert_pair(added(4000000000, 1000000000, False), 705032704, True)
        self.assert_pair(added(4000000000, 1000000000, True), 705032705, True)

    def test_noughts(self):
        self.assert_pair(added(0, 0, False), 0, False)
        self.assert_pair(added(0, 0, True), 1, False)

    def test_a_sum_about_the_bound(self):
        self.assert_pair(added(GREATEST, 0, False), GREATEST, False)
        self.assert_pair(added(HALF, HALF - 1, False), GREATEST, False)
        self.assert_pair(added(HALF - 1, HALF - 1, True), GREATEST, False)
        self.assert_pair(added(GREATEST, 1, False), 0, True)
        self.assert_pair(added(HALF, HALF, False), 0, True)
        self.assert_pair(added(GREATEST, 0, True), 0, True)
        self.assert_pair(added(0, GREATEST, True), 0, True)
        self.assert_pair(added(HALF, HALF - 1, True), 0, True)
        self.assert_pair(added(GREATEST, 1, True), 1, True)

    def test_the_greatest(self):
        self.assert_pair(added(GREATEST, GREATEST, False), GREATEST - 1, True)
        self.assert_pair(added(GREATEST, GREATEST, True), GREATEST, True)

    def test_all_edges_with_one_another(self):
        for one in edge_words():
            for other in edge_words():
                for carry in (False, True):
                    total = one + other + (1 if carry else 0)
                    word = total if total <= GREATEST else total - BEYOND
                    self.assert_pair(added(one, other, carry), word, total > GREATEST)


class Taken(BitsCase):
    def test_ordinary(self):
        self.assert_pair(taken(5, 3, False), 2, False)
        self.assert_pair(taken(5, 3, True), 1, False)
        self.assert_pair(taken(3, 5, False), GREATEST - 1, True)
        self.assert_pair(taken(3, 5, True), GREATEST - 2, True)

    def test_a_difference_of_nought_and_of_one_less(self):
        for word in edge_words():
            self.assert_pair(taken(word, word, False), 0, False)
            self.assert_pair(taken(word, word, True), GREATEST, True)
        for word in edge_words()[1:]:
            self.assert_pair(taken(word, word - 1, True), 0, False)
            self.assert_pair(taken(word - 1, word, False), GREATEST, True)

    def test_the_ends(self):
        self.assert_pair(taken(GREATEST, 0, False), GREATEST, False)
        self.assert_pair(taken(GREATEST, 0, True), GREATEST - 1, False)
        self.assert_pair(taken(0, GREATEST, False), 1, True)
        self.assert_pair(taken(0, GREATEST, True), 0, True)

    def test_all_edges_with_one_another(self):
        for one in edge_words():
            for other in edge_words():
                for borrow in (False, True):
                    left = one - other - (1 if borrow else 0)
                    word = left if left >= 0 else left + BEYOND
                    self.assert_pair(taken(one, other, borrow), word, left < 0)

    def test_it_undoes_added(self):
        words = some_words(1, 40)
        for one, other in zip(words[:20], words[20:]):
            for truth in (False, True):
                word, beyond = added(one, other, truth)
                self.assert_pair(taken(word, other, truth), one, beyond)


class Moved(BitsCase):
    def test_by_nought_nothing_falls_out(self):
        for word in edge_words():
            self.assert_pair(moved_left(word, 0), word, None)
            self.assert_pair(moved_right(word, 0), word, None)

    def test_left_by_one(self):
        self.assert_pair(moved_left(0, 1), 0, False)
        self.assert_pair(moved_left(1, 1), 2, False)
        self.assert_pair(moved_left(HALF, 1), 0, True)
        self.assert_pair(moved_left(HALF - 1, 1), GREATEST - 1, False)
        self.assert_pair(moved_left(GREATEST, 1), GREATEST - 1, True)

    def test_right_by_one(self):
        self.assert_pair(moved_right(0, 1), 0, False)
        self.assert_pair(moved_right(1, 1), 0, True)
        self.assert_pair(moved_right(2, 1), 1, False)
        self.assert_pair(moved_right(HALF, 1), 1073741824, False)
        self.assert_pair(moved_right(GREATEST, 1), HALF - 1, True)

    def test_by_thirty_one(self):
        self.assert_pair(moved_left(1, 31), HALF, False)
        self.assert_pair(moved_left(2, 31), 0, True)
        self.assert_pair(moved_left(4, 31), 0, False)
        self.assert_pair(moved_left(GREATEST, 31), HALF, True)
        self.assert_pair(moved_right(HALF, 31), 1, False)
        self.assert_pair(moved_right(1073741824, 31), 0, True)
        self.assert_pair(moved_right(536870912, 31), 0, False)
        self.assert_pair(moved_right(GREATEST, 31), 1, True)

    def test_only_the_last_bit_that_fell_is_told(self):
        self.assert_pair(moved_left(0xD0000001, 4), 0x10, True)
        self.assert_pair(moved_left(0xE0000001, 4), 0x10, False)
        self.assert_pair(moved_right(0x1000000B, 4), 0x01000000, True)
        self.assert_pair(moved_right(0x10000007, 4), 0x01000000, False)

    def test_every_count_bit_by_bit(self):
        for word in edge_words() + some_words(2, 10):
            bits = bit_list(word)
            for count in range(1, 32):
                higher = of_bits([0] * count + bits[:32 - count])
                lower = of_bits(bits[count:])
                self.assert_pair(moved_left(word, count), higher, bits[32 - count] == 1)
                self.assert_pair(moved_right(word, count), lower, bits[count - 1] == 1)


class Parts(BitsCase):
    def test_ordinary(self):
        self.assert_number(part(0x12345678, 8, 8), 0x56)
        self.assert_number(part(0x12345678, 4, 12), 0x567)
        self.assert_number(with_part(0x12345678, 8, 8, 0xAB), 0x1234AB78)
        self.assert_number(with_part(0, 27, 5, 17), 2281701376)

    def test_width_one(self):
        self.assert_number(part(1, 0, 1), 1)
        self.assert_number(part(GREATEST - 1, 0, 1), 0)
        self.assert_number(part(HALF, 31, 1), 1)
        self.assert_number(part(HALF - 1, 31, 1), 0)
        self.assert_number(with_part(0, 0, 1, 1), 1)
        self.assert_number(with_part(GREATEST, 0, 1, 0), GREATEST - 1)
        self.assert_number(with_part(0, 31, 1, 1), HALF)
        self.assert_number(with_part(GREATEST, 31, 1, 0), HALF - 1)
        self.assert_number(with_part(GREATEST, 31, 1, 1), GREATEST)

    def test_width_thirty_two(self):
        for word in edge_words():
            self.assert_number(part(word, 0, 32), word)
            for number in (0, 1, HALF, GREATEST):
                self.assert_number(with_part(word, 0, 32, number), number)

    def test_every_part_bit_by_bit(self):
        for word in (0, GREATEST, 0xA5A5A5A5) + tuple(some_words(3, 2)):
            bits = bit_list(word)
            for width in range(1, 33):
                greatest = of_bits([1] * width)
                for low in range(33 - width):
                    self.assert_number(part(word, low, width), of_bits(bits[low:low + width]))
                    for number in {0, 1, greatest // 3, greatest}:
                        put = bits[:low] + bit_list(number)[:width] + bits[low + width:]
                        self.assert_number(with_part(word, low, width, number), of_bits(put))


class Signed(BitsCase):
    def test_width_one(self):
        self.assert_number(signed(0, 1), 0)
        self.assert_number(signed(1, 1), -1)
        self.assert_number(unsigned(0, 1), 0)
        self.assert_number(unsigned(-1, 1), 1)

    def test_width_five(self):
        for number, other in ((0, 0), (1, 1), (15, 15), (16, -16), (17, -15), (31, -1)):
            self.assert_number(signed(number, 5), other)
            self.assert_number(unsigned(other, 5), number)

    def test_width_thirty_two(self):
        for number, other in ((0, 0), (HALF - 1, HALF - 1), (HALF, -HALF), (HALF + 1, 1 - HALF), (GREATEST, -1)):
            self.assert_number(signed(number, 32), other)
            self.assert_number(unsigned(other, 32), number)

    def test_every_number_of_small_widths(self):
        for width in range(1, 9):
            half = of_bits([1] * (width - 1)) + 1
            told = [signed(number, width) for number in range(2 * half)]
            self.assertEqual(told, list(range(half)) + list(range(-half, 0)))
            self.assertEqual([unsigned(other, width) for other in told], list(range(2 * half)))

    def test_the_ends_and_the_middle_of_every_width(self):
        for width in range(1, 33):
            half = of_bits([1] * (width - 1)) + 1
            self.assert_number(signed(half - 1, width), half - 1)
            self.assert_number(signed(half, width), -half)
            self.assert_number(signed(2 * half - 1, width), -1)
            self.assert_number(unsigned(half - 1, width), half - 1)
            self.assert_number(unsigned(-half, width), half)
            self.assert_number(unsigned(-1, width), 2 * half - 1)

    def test_beyond_both_bounds(self):
        for width in range(1, 33):
            half = of_bits([1] * (width - 1)) + 1
            for number in (half, half + 1, 2 * half - 1, 2 * half, -half - 1, -half - 2, -2 * half - 1):
                with self.subTest(width=width, number=number):
                    assert_refused(self, BadNumber, unsigned, number, width)

    def test_far_beyond_both_bounds(self):
        for width in (1, 5, 16, 32):
            for number in (BEYOND, 10 ** 30, 10 ** 5000):
                assert_refused(self, BadNumber, unsigned, number, width)
                assert_refused(self, BadNumber, unsigned, -number, width)


class Bytes(BitsCase):
    def test_bytes_of_tells_a_tuple_the_lowest_first(self):
        for word, four in (
            (0, (0, 0, 0, 0)), (1, (1, 0, 0, 0)), (256, (0, 1, 0, 0)), (65536, (0, 0, 1, 0)),
            (16777216, (0, 0, 0, 1)), (0x12345678, (0x78, 0x56, 0x34, 0x12)),
            (HALF, (0, 0, 0, 128)), (GREATEST, (255, 255, 255, 255)),
        ):
            told = bytes_of(word)
            self.assertIs(type(told), tuple)
            self.assertEqual([type(byte) for byte in told], [int] * 4)
            self.assertEqual(told, four)
            self.assert_number(word_of(four), word)
            self.assert_number(word_of(list(four)), word)

    def test_there_and_back(self):
        for word in edge_words() + some_words(4, 50):
            self.assert_number(word_of(bytes_of(word)), word)

    def test_the_list_stays_as_it_was(self):
        four = [1, 2, 3, 255]
        self.assert_number(word_of(four), 0xFF030201)
        self.assertEqual(four, [1, 2, 3, 255])


if __name__ == "__main__":
    unittest.main()
