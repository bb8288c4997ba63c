import unittest

from markrun import kinds

# As the document writes them out.
ITEMS = (
    "label name, set d n, high d n, copy d s, add d s, addc d s, sub d s, subc d s, and d s, or d s, xor d s,"
    " test d s, left d n, right d n, load d s n, store d s n, loadw d s n, storew d s n,"
    " jump name, when mark name, unless mark name, stop"
)
CODES = (
    "stop 0, set 1, high 2, copy 3, add 4, addc 5, sub 6, subc 7, and 8, or 9, xor 10, test 11, left 12, right 13,"
    " load 14, store 15, loadw 16, storew 17"
)
GREATEST = {
    "set": 65535, "high": 65535, "left": 31, "right": 31, "load": 255, "store": 255, "loadw": 255, "storew": 255,
}


class Kinds(unittest.TestCase):
    def test_what_stands_in_each_item(self):
        wanted = {}
        for item in ITEMS.split(", "):
            wanted[item.split()[0]] = tuple(item.split()[1:])
        self.assertEqual(kinds.FIELDS, wanted)

    def test_just_the_kinds_with_a_number_have_a_width_for_it(self):
        greatest = {kind: 2 ** width - 1 for kind, width in kinds.NUMBER_WIDTHS.items()}
        self.assertEqual(greatest, GREATEST)
        self.assertEqual(set(greatest), {kind for kind, fields in kinds.FIELDS.items() if "n" in fields})

    def test_the_numbers_of_rows(self):
        wanted = {}
        for told in CODES.split(", "):
            wanted[told.split()[0]] = int(told.split()[1])
        self.assertEqual(kinds.CODES, wanted)
        self.assertEqual(kinds.NEAR_CODES, {"jump": 18, "when": 19, "unless": 20})
        self.assertEqual(kinds.FAR_CODES, {"jump": 21, "when": 22, "unless": 23})

    def test_every_row_has_a_number(self):
        self.assertEqual(set(kinds.CODES) | set(kinds.NEAR_CODES) | {"label"}, set(kinds.FIELDS))

    def test_marks_and_names(self):
        self.assertEqual(kinds.MARKS, ("carry", "nought", "sign"))
        self.assertEqual(kinds.NAME_LONGEST, 8)
        self.assertEqual(kinds.LETTERS, "".join(chr(number) for number in range(ord("a"), ord("z") + 1)))

    def test_jumps_are_just_the_rows_with_a_name(self):
        named = [kind for kind, fields in kinds.FIELDS.items() if "name" in fields and kind != "label"]
        self.assertEqual(kinds.JUMPS, tuple(named))
        self.assertEqual([kinds.FIELDS[kind][-1] for kind in named], ["name"] * 3)

    def test_where_a_word_tells_what(self):
        self.assertEqual(
            kinds.PLACES, {"kind": (27, 5), "d": (24, 3), "s": (21, 3), "mark": (24, 2), "distance": (0, 5)}
        )
        self.assertEqual(kinds.NUMBER_LOW, 0)


if __name__ == "__main__":
    unittest.main()
