import unittest

from markrun.flow import next_rows, put, reached, used
from markrun.items import place_of, rows_of
from programs import MARKS, OF_MEMORY, OF_TWO_REGISTERS, program, rows_at_the_ends, some_program
from telling import TellingCase

CARRY, NOUGHT, SIGN = 256, 512, 1024
ALL_MARKS = CARRY + NOUGHT + SIGN


def wanted_used(row):
    d = 2 ** row[1] if len(row) > 1 and isinstance(row[1], int) else 0
    s = 2 ** row[2] if row[0] in OF_TWO_REGISTERS + OF_MEMORY else 0
    both = d if s == d else d + s
    return {
        "set": 0, "high": d, "left": d, "right": d, "copy": s, "load": s, "loadw": s,
        "add": both, "sub": both, "and": both, "or": both, "xor": both, "test": both, "store": both, "storew": both,
        "addc": both + CARRY, "subc": both + CARRY, "stop": 2047,
    }[row[0]]


def wanted_put(row):
    d = 2 ** row[1] if len(row) > 1 and isinstance(row[1], int) else 0
    moved = d + NOUGHT + SIGN + (CARRY if row[-1] != 0 else 0)
    return {
        "set": d, "high": d, "copy": d, "load": d, "loadw": d,
        "add": d + ALL_MARKS, "addc": d + ALL_MARKS, "sub": d + ALL_MARKS, "subc": d + ALL_MARKS, "test": ALL_MARKS,
        "and": d + NOUGHT + SIGN, "or": d + NOUGHT + SIGN, "xor": d + NOUGHT + SIGN,
        "left": moved, "right": moved, "store": 0, "storew": 0, "stop": 0,
    }[row[0]]


class UsedAndPut(TellingCase):
    def test_examples(self):
        for row, looked_at, anew in (
            (("set", 0, 5), 0, 1), (("set", 7, 0), 0, 128), (("high", 3, 1), 8, 8), (("copy", 1, 2), 4, 2),
            (("copy", 2, 2), 4, 4), (("add", 0, 7), 129, 1793), (("addc", 0, 7), 385, 1793), (("sub", 1, 1), 2, 1794),
            (("subc", 1, 1), 258, 1794), (("test", 5, 6), 96, 1792), (("and", 0, 1), 3, 1537), (("or", 6, 0), 65, 1600),
            (("xor", 4, 4), 16, 1552), (("left", 2, 0), 4, 1540), (("left", 2, 1), 4, 1796),
            (("right", 0, 0), 1, 1537), (("right", 0, 31), 1, 1793), (("load", 0, 1, 9), 2, 1),
            (("loadw", 7, 7, 0), 128, 128), (("store", 0, 1, 9), 3, 0), (("storew", 7, 6, 0), 192, 0),
            (("jump", "a"), 0, 0), (("when", "carry", "a"), 256, 0), (("when", "nought", "a"), 512, 0),
            (("when", "sign", "a"), 1024, 0), (("unless", "carry", "a"), 256, 0), (("unless", "nought", "a"), 512, 0),
            (("unless", "sign", "a"), 1024, 0), (("stop",), 2047, 0),
        ):
            with self.subTest(row=row):
                self.assert_told(self.tell(used, row), looked_at)
                self.assert_told(self.tell(put, row), anew)

    def test_every_kind_at_the_ends(self):
        for row in rows_at_the_ends():
            with self.subTest(row=row):
                self.assert_told(self.tell(used, row), wanted_used(row))
                self.assert_told(self.tell(put, row), wanted_put(row))

    def test_a_mark_or_a_name_that_looks_like_another(self):
        self.assert_told(used(("jump", "carry")), 0)
        self.assert_told(used(("when", "sign", "carry")), 1024)
        self.assert_told(put(("when", "sign", "carry")), 0)


class NextRows(TellingCase):
    def assert_next(self, text, wanted):
        items = program(text)
        for number, numbers in enumerate(wanted):
            self.assert_told(self.tell(next_rows, items, number), numbers)

    def test_rows_and_stop(self):
        self.assert_next("set r0 1, stop, add r0 r0, test r0 r0", [[1], [], [3], [4]])
        self.assert_next("stop", [[]])
        self.assert_next("x:, store r0 r0 0, y:", [[1]])

    def test_jump(self):
        self.assert_next("a:, jump a", [[0]])
        self.assert_next("jump a, a:", [[1]])
        self.assert_next("jump b, a:, stop, b:, jump a, jump c, c:", [[2], [], [1], [4]])
        self.assert_next("x:, stop, jump x, jump y, stop, y:", [[], [0], [4], []])

    def test_when_and_unless(self):
        for kind in ("when", "unless"):
            for mark in MARKS:
                jump = kind + " " + mark
                self.assert_next(f"a:, {jump} a", [[0, 1]])
                self.assert_next(f"{jump} a, a:", [[1]])
                self.assert_next(f"{jump} a, stop, a:", [[1, 2], []])
                self.assert_next(f"a:, stop, set r0 1, {jump} a, stop", [[], [2], [0, 3], []])
                self.assert_next(f"stop, {jump} a, stop, stop, b:, a:, stop", [[], [2, 4], [], [], []])
                self.assert_next(f"stop, {jump} a, a:, stop", [[], [2], []])

    def test_every_kind_of_row(self):
        items = rows_at_the_ends()
        for number, row in enumerate(items):
            self.assert_told(next_rows(items, number), [] if row == ("stop",) else [number + 1])


class Reached(TellingCase):
    def assert_reached(self, text, wanted):
        with self.subTest(text=text):
            self.assert_told(self.tell(reached, program(text)), wanted)

    def test_without_rows(self):
        self.assert_reached("", [])
        self.assert_reached("a:, b:", [])

    def test_examples(self):
        self.assert_reached("stop", [0])
        self.assert_reached("set r0 1", [0])
        self.assert_reached("set r0 1, stop, set r0 2", [0, 1])
        self.assert_reached("jump a, set r0 1, a:, stop", [0, 2])
        self.assert_reached("jump a, set r0 1, b:, stop, a:, set r0 2, jump b, stop", [0, 2, 3, 4])
        self.assert_reached("when carry a, stop, set r0 1, a:, stop, stop", [0, 1, 3])
        self.assert_reached("jump end, set r0 1, stop, end:", [0])

    def test_ways_round(self):
        self.assert_reached("a:, jump a, stop", [0])
        self.assert_reached("a:, set r0 1, unless nought a, stop, jump a", [0, 1, 2])
        self.assert_reached("jump b, a:, jump b, b:, jump a, c:, jump d, d:, jump c", [0, 1, 2])

    def test_a_row_that_only_rows_lead_to_that_are_not_reached(self):
        self.assert_reached("stop, a:, set r0 1, jump a", [0])
        self.assert_reached("jump z, a:, set r0 1, when carry a, jump b, b:, stop, z:", [0])

    def test_programs_by_chance(self):
        for seed in range(60):
            items = some_program(seed, rows=25, jumps=4, stops=3, labels=5)
            rows, found = rows_of(items), {0}
            while True:
                more = set(found)
                for number in found:
                    row = rows[number]
                    if row[0] in ("jump", "when", "unless"):
                        more.add(place_of(items, row[-1]))
                    if row[0] not in ("jump", "stop"):
                        more.add(number + 1)
                more.discard(len(rows))
                if more == found:
                    break
                found = more
            self.assert_told(self.tell(reached, items), sorted(found))


if __name__ == "__main__":
    unittest.main()
