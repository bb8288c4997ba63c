import unittest

from markrun.reach import far_rows
from markrun.words import word_of_row, written
from programs import OF_MEMORY, OF_NUMBERS, OF_TWO_REGISTERS, program, rows_at_the_ends, some_program
from telling import TellingCase
from wording import KINDS, NEAR, far_words, jumps, near_word, wanted_word


class WordOfRow(TellingCase):
    def test_examples(self):
        for row, wanted in (
            (("stop",), 0),
            (("set", 0, 0), 0x08000000), (("set", 7, 65535), 0x0F00FFFF), (("high", 1, 2), 0x11000002),
            (("copy", 1, 2), 0x19400000), (("add", 0, 7), 0x20E00000), (("addc", 7, 0), 0x2F000000),
            (("sub", 1, 1), 0x31200000), (("subc", 2, 4), 0x3A800000), (("and", 0, 1), 0x40200000),
            (("or", 3, 0), 0x4B000000), (("xor", 7, 7), 0x57E00000), (("test", 4, 5), 0x5CA00000),
            (("left", 0, 31), 0x6000001F), (("right", 6, 1), 0x6E000001),
            (("load", 1, 2, 30), 0x7140001E), (("store", 7, 7, 255), 0x7FE000FF),
            (("loadw", 0, 0, 0), 0x80000000), (("storew", 3, 4, 128), 0x8B800080),
        ):
            self.assert_told(self.tell(word_of_row, row), wanted)

    def test_every_kind_at_the_ends(self):
        kinds = set()
        for row in rows_at_the_ends():
            kinds.add(row[0])
            self.assert_told(self.tell(word_of_row, row), wanted_word(row))
        self.assertEqual(kinds, set(KINDS))
        self.assertEqual(kinds, set(OF_TWO_REGISTERS) | set(OF_MEMORY) | set(OF_NUMBERS) | {"stop"})


class Written(TellingCase):
    def test_nothing(self):
        self.assert_told(self.tell(written, []), [])
        self.assert_told(self.tell(written, [("label", "a")]), [])

    def test_rows_without_jumps(self):
        rows = rows_at_the_ends()
        self.assert_told(self.tell(written, rows), [wanted_word(row) for row in rows])
        items = program("a:, set r0 1, b:, c:, stop, d:")
        self.assert_told(self.tell(written, items), [0x08000001, 0])

    def test_examples_of_jumps(self):
        self.assert_told(self.tell(written, program("a:, jump a")), [0x90000000])
        self.assert_told(self.tell(written, program("jump a, a:")), [0x90000001])
        self.assert_told(self.tell(written, program("a:, stop, when nought a")), [0, 0x9900001F])
        self.assert_told(self.tell(written, program("a:, stop, unless sign a")), [0, 0xA200001F])
        items = program("jump a") + [("stop",)] * 15 + program("a:")
        self.assert_told(self.tell(written, items), [0xA8000000, 17] + [0] * 15)
        items = program("a:") + [("stop",)] * 17 + program("unless nought a")
        self.assert_told(self.tell(written, items), [0] * 17 + [0xB9000000, 0xFFFFFFEF])

    def test_jumps_on(self):
        for row in jumps():
            for distance in range(1, 16):
                items = [row] + [("stop",)] * (distance - 1) + [("label", "a")]
                self.assert_told(self.tell(written, items), [near_word(row, distance)] + [0] * (distance - 1))
            for between in (15, 16, 31, 32, 255, 380):
                items = [row] + [("stop",)] * between + [("label", "a")]
                self.assert_told(self.tell(written, items), far_words(row, between + 2) + [0] * between)

    def test_jumps_back_and_to_themselves(self):
        for row in jumps():
            for distance in range(17):
                items = [("label", "a")] + [("stop",)] * distance + [row]
                self.assert_told(self.tell(written, items), [0] * distance + [near_word(row, -distance)])
            for distance in (17, 18, 32, 33, 256, 380):
                items = [("label", "a")] + [("stop",)] * distance + [row]
                self.assert_told(self.tell(written, items), [0] * distance + far_words(row, -distance))

    def test_distances_over_far_jumps(self):
        # Row 2 is far, so the way over it is one word longer, on and back.
        items = program("a:, jump b, b:, set r0 1, jump c, when sign a, unless carry b") + [("stop",)] * 20
        items.append(("label", "c"))
        wanted = [near_word(("jump",), 1), 0x08000001] + far_words(("jump",), 24)
        wanted.extend([near_word(("when", "sign"), -4), near_word(("unless", "carry"), -4)])
        self.assert_told(self.tell(written, items), wanted + [0] * 20)

    def test_programs_by_chance(self):
        far_met = 0
        for seed in range(60):
            items = some_program(seed, rows=10 + 2 * seed, jumps=seed % 7, labels=8)
            far_met += len(far_rows(items))
            self.assert_told(self.tell(written, items), self.wanted(items))
        self.assertGreater(far_met, 100)

    def wanted(self, items):
        far, at, places, number = far_rows(items), [0], {}, 0
        for item in items:
            if item[0] == "label":
                places[item[1]] = number
                continue
            at.append(at[-1] + (2 if number in far else 1))
            number += 1
        words = []
        for number, row in enumerate([item for item in items if item[0] != "label"]):
            if row[0] not in NEAR:
                words.append(wanted_word(row))
                continue
            distance = at[places[row[-1]]] - at[number]
            words.extend(far_words(row, distance) if number in far else [near_word(row, distance)])
        return words


if __name__ == "__main__":
    unittest.main()
