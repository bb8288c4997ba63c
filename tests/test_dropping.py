import random
import unittest

from markrun.dropping import idle, without
from markrun.items import is_program, place_of, rows_of
from idling import idle_kinds
from programs import MARKS, program, rows_at_the_ends, some_program
from telling import TellingCase


class Idle(TellingCase):
    def assert_idle(self, text, wanted):
        with self.subTest(text=text):
            self.assert_told(self.tell(idle, program(text)), wanted)

    def test_none(self):
        for text in ("", "a:", "stop", "set r0 1", "set r0 1, stop", "add r0 r0, store r0 r0 0", "a:, jump a"):
            self.assert_idle(text, [])

    def test_not_reached(self):
        self.assert_idle("stop, set r0 1", [1])
        self.assert_idle("stop, stop", [1])
        self.assert_idle("stop, store r0 r1 0, storew r0 r1 0", [1, 2])
        self.assert_idle("jump a, set r0 1, stop, a:, set r1 1", [1, 2])
        self.assert_idle("stop, b:, when carry b, a:, jump a", [1, 2])
        self.assert_idle("when carry a, stop, store r0 r0 0, a:, stop", [2])

    def test_to_the_next_row(self):
        self.assert_idle("jump a, a:, stop", [0])
        self.assert_idle("jump a, a:", [0])
        self.assert_idle("jump b, a:, b:, c:, stop", [0])
        for kind in ("when", "unless"):
            for mark in MARKS:
                self.assert_idle(f"{kind} {mark} a, a:, stop", [0])
                self.assert_idle(f"{kind} {mark} a, a:", [0])
                self.assert_idle(f"set r0 1, {kind} {mark} a, x:, a:", [1])

    def test_jumps_that_look_like_it(self):
        self.assert_idle("a:, jump a", [])
        self.assert_idle("when carry a, stop, a:, stop", [])
        self.assert_idle("a:, when carry a", [])
        self.assert_idle("set r0 1, a:, when carry a, set r1 1", [])
        self.assert_idle("when carry a, store r0 r0 0, a:", [])
        # Leading to the end, but not from the last row.
        self.assert_idle("when carry end, set r0 1, end:", [])

    def test_copied_to_itself(self):
        for number in range(8):
            self.assert_idle(f"copy r{number} r{number}", [0])
        self.assert_idle("copy r0 r0, copy r1 r0, copy r1 r1, stop", [0, 2])

    def test_rows_that_look_like_copied_to_itself(self):
        for row in ("copy r0 r1", "and r0 r0", "or r0 r0", "add r0 r0", "xor r0 r0", "test r0 r0", "sub r0 r0",
                    "load r0 r0 0", "store r0 r0 0", "left r0 0", "right r0 0", "set r0 0", "high r0 0"):
            self.assert_idle(row, [])

    def test_not_needed(self):
        for row in ("set r0 1", "copy r0 r1", "load r0 r1 0", "loadw r0 r1 0", "load r0 r0 0", "copy r0 r0"):
            self.assert_idle(f"{row}, set r0 2", [0])
            self.assert_idle(f"{row}, store r0 r2 0", [0] if row == "copy r0 r0" else [])
            self.assert_idle(f"{row}, set r1 2", [0] if row == "copy r0 r0" else [])
        self.assert_idle("high r0 1, set r0 2", [0])
        self.assert_idle("set r0 1, high r0 2", [])
        for row in ("add r0 r1", "addc r0 r1", "sub r0 r1", "subc r0 r1", "left r0 1", "right r0 31"):
            self.assert_idle(f"{row}, set r0 1, test r1 r2", [0])
            self.assert_idle(f"{row}, test r1 r2", [])
            self.assert_idle(f"{row}, set r0 1", [])
            # carry stays needed where what follows puts nought and sign alone.
            self.assert_idle(f"{row}, set r0 1, and r1 r2", [])
        for row in ("and r0 r1", "or r0 r1", "xor r0 r1", "left r0 0", "right r0 0"):
            self.assert_idle(f"{row}, set r0 1, test r1 r2", [0])
            self.assert_idle(f"{row}, set r0 1, and r1 r2", [0])
            self.assert_idle(f"{row}, test r1 r2", [])
            self.assert_idle(f"{row}, set r0 1", [])
        self.assert_idle("test r0 r1, test r1 r2", [0])
        self.assert_idle("test r0 r1, and r1 r2", [])
        self.assert_idle("test r0 r1, addc r1 r2", [])
        self.assert_idle("test r0 r1, add r1 r2", [0])

    def test_store_and_storew_are_never_so(self):
        for row in ("store r0 r1 0", "storew r0 r1 0"):
            self.assert_idle(f"{row}, {row}", [])
            self.assert_idle(f"{row}, set r0 1, set r1 1", [])
            self.assert_idle(f"a:, {row}, jump a", [])

    def test_where_there_is_no_way_out_nothing_is_needed(self):
        self.assert_idle("a:, add r0 r1, jump a", [])
        self.assert_idle("a:, set r0 1, jump a", [0])
        self.assert_idle("a:, test r0 r1, jump a", [0])
        self.assert_idle("a:, add r0 r0, set r0 1, jump a", [0])

    def test_needed_on_one_of_two_ways(self):
        self.assert_idle("set r0 1, when carry a, set r0 2, stop, a:, set r0 3", [0])
        self.assert_idle("set r0 1, when carry a, set r0 2, stop, a:, set r1 3", [])
        self.assert_idle("set r0 1, when carry a, set r1 2, stop, a:, set r0 3", [])

    def test_several_kinds_each_number_once_rising(self):
        self.assert_idle("stop, copy r0 r0, jump a, a:, set r0 1, set r0 2", [1, 2, 3, 4])
        self.assert_idle("set r0 1, copy r0 r0, set r0 2, jump a, a:, jump b, set r0 1, b:", [1, 3, 5])
        self.assert_idle("copy r0 r0, set r0 1", [0])

    def test_programs_by_chance(self):
        met = [0, 0, 0, 0]
        for seed in range(150):
            items = some_program(seed, rows=25, jumps=3, stops=seed % 3, labels=6)
            kinds = idle_kinds(items)
            for number, numbers in enumerate(kinds):
                met[number] += len(numbers)
            self.assert_told(self.tell(idle, items), sorted(set(sum(kinds, []))))
        self.assertGreater(min(met), 10)


class Without(TellingCase):
    def assert_left(self, text, numbers, wanted):
        self.assert_told(self.tell(without, program(text), numbers), program(wanted))

    def test_no_rows(self):
        self.assert_left("", [], "")
        self.assert_left("a:, set r0 1, b:, jump a", [], "a:, set r0 1, b:, jump a")

    def test_all_rows(self):
        self.assert_left("stop", [0], "")
        self.assert_left("a:, set r0 1, b:, jump a, c:", [0, 1], "a:, b:, c:")
        self.assert_left("a:, set r0 1, b:, jump a, c:", [1, 0], "a:, b:, c:")

    def test_some_rows_in_any_order(self):
        text = "a:, set r0 0, set r1 1, b:, c:, set r2 2, jump b, set r4 4, d:"
        self.assert_left(text, [0], "a:, set r1 1, b:, c:, set r2 2, jump b, set r4 4, d:")
        self.assert_left(text, [4], "a:, set r0 0, set r1 1, b:, c:, set r2 2, jump b, d:")
        for numbers in ([1, 3], [3, 1]):
            self.assert_left(text, numbers, "a:, set r0 0, b:, c:, set r2 2, set r4 4, d:")
        for numbers in ([0, 2, 4], [4, 2, 0], [2, 4, 0]):
            self.assert_left(text, numbers, "a:, set r1 1, b:, c:, jump b, d:")

    def test_numbers_are_those_of_the_program_that_is_handed_in(self):
        rows = rows_at_the_ends()
        numbers = list(range(0, len(rows), 3))
        random.Random(1).shuffle(numbers)
        wanted = [row for number, row in enumerate(rows) if number % 3 != 0]
        self.assert_told(self.tell(without, rows, numbers), wanted)

    def test_the_list_is_the_askers_own(self):
        items = program("set r0 1, stop")
        told = without(items, [])
        told.clear()
        self.assert_told(items, program("set r0 1, stop"))

    def test_programs_by_chance(self):
        for seed in range(30):
            items = some_program(seed, labels=6)
            chance = random.Random(seed)
            numbers = chance.sample(range(len(rows_of(items))), chance.randrange(10))
            told = self.tell(without, items, numbers)
            self.assertIs(is_program(told), True)
            wanted = [row for number, row in enumerate(rows_of(items)) if number not in numbers]
            self.assert_told(rows_of(told), wanted)
            self.assertEqual([item for item in told if item[0] == "label"], [item for item in items if item[0] == "label"])
            for item in items:
                if item[0] == "label":
                    place = place_of(items, item[1])
                    gone = len([number for number in numbers if number < place])
                    self.assertEqual(place_of(told, item[1]), place - gone)


if __name__ == "__main__":
    unittest.main()
