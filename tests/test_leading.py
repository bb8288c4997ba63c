import unittest

from markrun.items import is_program, place_of, rows_of
from markrun.leading import led_on
from markrun.rowrun import RowMachine
from programs import program, some_program
from running import some_state, told_by
from telling import TellingCase


class LedOn(TellingCase):
    def assert_led(self, text, wanted):
        with self.subTest(text=text):
            self.assert_told(self.tell(led_on, program(text)), program(wanted))

    def test_nothing_to_lead_on(self):
        for text in (
            "", "a:", "set r0 1, stop", "jump a, set r0 1, a:, stop", "a:, set r0 1, jump a", "jump a, a:",
            "when carry a, stop, a:, when carry b, stop, b:, stop", "jump a, stop, a:, unless sign b, b:",
        ):
            self.assert_led(text, text)

    def test_over_one_row(self):
        self.assert_led("jump a, stop, a:, jump b, stop, b:, stop", "jump b, stop, a:, jump b, stop, b:, stop")
        self.assert_led("b:, stop, a:, jump b, jump a", "b:, stop, a:, jump b, jump b")
        self.assert_led("when sign a, stop, a:, jump b, stop, b:, stop", "when sign b, stop, a:, jump b, stop, b:, stop")
        self.assert_led("b:, stop, a:, jump b, unless carry a", "b:, stop, a:, jump b, unless carry b")

    def test_to_the_next_row(self):
        self.assert_led("jump a, a:, jump b, stop, b:, stop", "jump b, a:, jump b, stop, b:, stop")
        self.assert_led("jump a, stop, a:, jump b, b:, stop", "jump b, stop, a:, jump b, b:, stop")

    def test_to_the_end(self):
        self.assert_led("jump a, stop, a:, jump end, stop, end:", "jump end, stop, a:, jump end, stop, end:")
        self.assert_led("jump a, b:, a:, jump end, end:, last:", "jump end, b:, a:, jump end, end:, last:")

    def test_over_two_and_many_rows(self):
        self.assert_led(
            "when carry a, b:, jump c, a:, jump b, c:, jump d, stop, d:, set r0 1",
            "when carry d, b:, jump d, a:, jump d, c:, jump d, stop, d:, set r0 1",
        )
        names = "abcdefghijklmnopqrstuvwxy"
        for order in (names, names[::-1], names[::2] + names[1::2]):
            items = [("unless", "nought", order[0]), ("stop",)]
            for number, name in enumerate(order):
                items.extend([("label", name), ("jump", (order + "z")[number + 1])])
            items.extend(program("stop, z:, set r0 1"))
            wanted = [row[:-1] + ("z",) if row[0] in ("jump", "unless") else row for row in items]
            self.assert_told(self.tell(led_on, items), wanted)

    def test_it_gets_the_very_name_of_the_last_jump(self):
        self.assert_led(
            "jump x, stop, y:, x:, jump p, stop, o:, p:, q:, stop", "jump p, stop, y:, x:, jump p, stop, o:, p:, q:, stop"
        )

    def test_a_label_whose_place_is_a_row_behind_other_labels(self):
        self.assert_led("jump x, stop, x:, y:, z:, jump q, stop, q:", "jump q, stop, x:, y:, z:, jump q, stop, q:")

    def test_by_rows_jump_alone(self):
        for kind in ("when carry", "unless nought"):
            self.assert_led(
                f"jump a, a:, {kind} b, stop, b:, jump c, c:, stop",
                f"jump a, a:, {kind} c, stop, b:, jump c, c:, stop",
            )
            self.assert_led(f"{kind} a, stop, a:, {kind} b, b:, stop", f"{kind} a, stop, a:, {kind} b, b:, stop")

    def test_round_in_a_circle(self):
        for text in (
            "a:, jump a",
            "a:, jump b, b:, jump a",
            "a:, jump b, b:, jump c, c:, jump a",
            "when carry a, stop, a:, jump b, b:, jump a",
            "unless sign a, a:, jump a",
            "jump x, stop, x:, jump y, y:, jump z, z:, jump y",
            "a:, b:, jump b, jump a",
        ):
            self.assert_led(text, text)

    def test_a_circle_beside_a_way_that_ends(self):
        self.assert_led(
            "jump a, jump p, a:, jump b, b:, jump a, p:, jump q, q:, stop",
            "jump a, jump q, a:, jump b, b:, jump a, p:, jump q, q:, stop",
        )

    def test_again_it_changes_nothing_and_machines_do_the_same(self):
        led = 0
        for seed in range(80):
            items = some_program(seed, rows=14, jumps=7, labels=6)
            told = self.tell(led_on, items)
            led += told != items
            self.assertIs(is_program(told), True)
            self.assert_told(self.tell(led_on, told), told)
            self.assert_as_told(items, told)
            registers, memory = some_state(seed)
            one, other = RowMachine(items, registers, memory), RowMachine(told, registers, memory)
            one.run(3000)
            if one.stands():
                self.assertLessEqual(other.run(3000), one.steps())
                self.assert_told(told_by(other)[2:], told_by(one)[2:])
        self.assertGreater(led, 10)

    def assert_as_told(self, items, told):
        rows = rows_of(items)
        self.assertEqual(len(items), len(told))
        for item, other in zip(items, told):
            if item[0] not in ("jump", "when", "unless"):
                self.assertEqual(item, other)
                continue
            self.assertEqual(item[:-1], other[:-1])
            names, met = [item[-1]], []
            while True:
                place = place_of(items, names[-1])
                if place == len(rows) or rows[place][0] != "jump" or place in met:
                    break
                met.append(place)
                names.append(rows[place][1])
            self.assertEqual(other[-1], names[0] if place in met else names[-1])


if __name__ == "__main__":
    unittest.main()
