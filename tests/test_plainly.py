import unittest

from markrun.items import is_program, place_of, rows_of
from markrun.plainly import name_of, plain
from programs import program, some_program
from telling import TellingCase

JUMPS = ("jump", "when", "unless")


def all_names():
    """Names of one letter, of two, and so on, each in the order of the letters."""
    letters = "abcdefghijklmnopqrstuvwxyz"
    names = [""]
    told = []
    while len(told) < 10100:
        names = [name + letter for name in names for letter in letters]
        told.extend(names)
    return told


class Names(TellingCase):
    def test_the_named_edges(self):
        for number, name in (
            (0, "a"), (1, "b"), (24, "y"), (25, "z"), (26, "aa"), (27, "ab"), (51, "az"), (52, "ba"), (53, "bb"),
            (700, "zy"), (701, "zz"), (702, "aaa"), (703, "aab"), (727, "aaz"), (728, "aba"), (1377, "azz"),
            (1378, "baa"), (9998, "nto"), (9999, "ntp"),
        ):
            self.assert_told(self.tell(name_of, number), name)

    def test_all_in_order(self):
        names = all_names()
        for number in range(10000):
            self.assertEqual(name_of(number), names[number])


class Plain(TellingCase):
    def assert_plain(self, text, wanted):
        with self.subTest(text=text):
            self.assert_told(self.tell(plain, program(text)), program(wanted))

    def test_without_jumps(self):
        self.assert_plain("", "")
        self.assert_plain("x:, y:", "")
        self.assert_plain("x:, set r0 1, y:, stop, z:", "set r0 1, stop")

    def test_labels_to_which_no_jump_leads_are_dropped(self):
        self.assert_plain("x:, y:, set r0 1, w:, jump x", "a:, set r0 1, jump a")

    def test_several_labels_of_a_place_are_made_one(self):
        self.assert_plain(
            "x:, y:, z:, set r0 1, jump y, when sign x, unless carry z, jump y",
            "a:, set r0 1, jump a, when sign a, unless carry a, jump a",
        )

    def test_names_in_the_order_of_places(self):
        self.assert_plain(
            "jump z, y:, when carry x, jump y, x:, jump w, w:, z:, stop",
            "jump c, a:, when carry b, jump a, b:, jump c, c:, stop",
        )
        self.assert_plain("jump c, jump b, jump a, b:, stop, a:, stop, c:, stop",
                          "jump c, jump a, jump b, a:, stop, b:, stop, c:, stop")

    def test_a_label_at_the_end(self):
        self.assert_plain("jump x, set r0 1, y:, x:, z:", "jump a, set r0 1, a:")
        self.assert_plain("x:, jump y, jump x, y:", "a:, jump b, jump a, b:")

    def test_to_itself(self):
        self.assert_plain("loop:, jump loop", "a:, jump a")

    def test_the_label_stands_straight_ahead_of_its_row(self):
        self.assert_plain("x:, y:, stop, jump y", "a:, stop, jump a")
        self.assert_plain("stop, y:, x:, stop, jump x", "stop, a:, stop, jump a")

    def test_more_than_twenty_six_labels(self):
        items = []
        for number in range(30):
            items.append(("jump", name_of(29 - number)))
        for number in range(30):
            items.extend([("label", name_of(29 - number)), ("stop",)])
        wanted = [("jump", name_of(number)) for number in range(30)]
        for number in range(30):
            wanted.extend([("label", name_of(number)), ("stop",)])
        self.assert_told(self.tell(plain, items), wanted)
        self.assertEqual(wanted[26], ("jump", "aa"))

    def test_programs_by_chance(self):
        for seed in range(80):
            items = some_program(seed, rows=seed % 30, jumps=seed % 8, labels=seed % 9)
            told = self.tell(plain, items)
            self.assertIs(is_program(told), True)
            self.assert_told(self.tell(plain, told), told)
            self.assert_leads_alike(items, told)
            self.assert_labelled_plainly(told)

    def assert_leads_alike(self, items, told):
        rows, others = rows_of(items), rows_of(told)
        self.assertEqual(len(rows), len(others))
        for row, other in zip(rows, others):
            if row[0] in JUMPS:
                self.assertEqual(row[:-1], other[:-1])
                self.assertEqual(place_of(items, row[-1]), place_of(told, other[-1]))
            else:
                self.assertEqual(row, other)

    def assert_labelled_plainly(self, told):
        names = [item[1] for item in told if item[0] == "label"]
        self.assertEqual(names, [name_of(number) for number in range(len(names))])
        self.assertEqual(set(names), {row[-1] for row in rows_of(told) if row[0] in JUMPS})
        self.assertEqual(len({place_of(told, name) for name in names}), len(names))


if __name__ == "__main__":
    unittest.main()
