import unittest

from markrun.items import rows_of
from markrun.places import addresses
from programs import program, some_program
from telling import TellingCase


class Addresses(TellingCase):
    def test_without_rows(self):
        self.assert_told(self.tell(addresses, [], []), [0])
        self.assert_told(self.tell(addresses, program("a:, b:"), []), [0])

    def test_one_row(self):
        self.assert_told(self.tell(addresses, program("stop"), []), [0, 1])
        self.assert_told(self.tell(addresses, program("a:, jump a"), []), [0, 1])
        self.assert_told(self.tell(addresses, program("a:, jump a"), [0]), [0, 2])

    def test_none_some_and_all_of_the_jumps_far(self):
        items = program("a:, jump c, set r0 1, b:, when carry a, unless sign b, c:, d:, stop, jump d, e:")
        self.assert_told(self.tell(addresses, items, []), [0, 1, 2, 3, 4, 5, 6])
        self.assert_told(self.tell(addresses, items, [0]), [0, 2, 3, 4, 5, 6, 7])
        self.assert_told(self.tell(addresses, items, [3]), [0, 1, 2, 3, 5, 6, 7])
        self.assert_told(self.tell(addresses, items, [5]), [0, 1, 2, 3, 4, 5, 7])
        self.assert_told(self.tell(addresses, items, [2, 3]), [0, 1, 2, 4, 6, 7, 8])
        self.assert_told(self.tell(addresses, items, [0, 2, 5]), [0, 2, 3, 5, 6, 7, 9])
        self.assert_told(self.tell(addresses, items, [0, 2, 3, 5]), [0, 2, 3, 5, 7, 8, 10])

    def test_how_many_words_stand_ahead(self):
        for seed in range(30):
            items = some_program(seed, rows=25, jumps=5)
            jumps = [number for number, row in enumerate(rows_of(items)) if row[0] in ("jump", "when", "unless")]
            far = jumps[seed % 3::1 + seed % 4]
            wanted = [number + len([row for row in far if row < number]) for number in range(len(rows_of(items)) + 1)]
            self.assert_told(self.tell(addresses, items, far), wanted)


if __name__ == "__main__":
    unittest.main()
