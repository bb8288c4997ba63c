import unittest

from markrun.dropping import idle, without
from markrun.items import is_program, rows_of
from markrun.leading import led_on
from markrun.plainly import name_of, plain
from markrun.rowrun import RowMachine
from markrun.shorter import short
from idling import idle_kinds
from programs import program, some_program
from running import some_state, told_by
from telling import TellingCase


def short_by_rounds(items):
    """By the words of the document, a round at a time, with the kinds that are taken out."""
    kinds = []
    while True:
        led = led_on(items)
        found = [(number, numbers) for number, numbers in enumerate(idle_kinds(led)) if numbers]
        if led == items and not found:
            return plain(items), kinds
        items = led
        if found:
            kinds.append(found[0][0])
            items = without(led, found[0][1])


class Short(TellingCase):
    def assert_short(self, text, wanted):
        with self.subTest(text=text):
            self.assert_told(self.tell(short, program(text)), program(wanted))

    def test_nothing_idle(self):
        self.assert_short("", "")
        self.assert_short("x:, y:", "")
        self.assert_short("stop", "stop")
        self.assert_short("loop:, sub r0 r1, unless nought loop, stop", "a:, sub r0 r1, unless nought a, stop")

    def test_each_kind(self):
        self.assert_short("set r0 1, stop, set r0 2", "set r0 1, stop")
        self.assert_short("jump x, x:, set r0 1", "set r0 1")
        self.assert_short("when sign x, x:, set r0 1", "set r0 1")
        self.assert_short("copy r3 r3, set r0 1", "set r0 1")
        self.assert_short("load r0 r1 0, set r0 1", "set r0 1")
        self.assert_short("store r0 r1 0, set r0 1", "store r0 r1 0, set r0 1")

    def test_nothing_is_left(self):
        self.assert_short("jump x, x:", "")
        self.assert_short("jump x, set r0 1, stop, x:", "")
        self.assert_short("copy r0 r0, copy r1 r1", "")

    def test_a_way_round_without_end_stays(self):
        self.assert_short("a:, jump a", "a:, jump a")
        self.assert_short("set r0 1, x:, set r1 1, jump x, stop", "a:, jump a")
        self.assert_short("x:, jump y, stop, y:, jump x", "a:, jump a")
        self.assert_short("x:, jump y, z:, store r0 r0 0, y:, jump x", "a:, jump a")
        self.assert_short(
            "when sign z, x:, jump y, z:, store r0 r0 0, y:, jump x",
            "when sign b, a:, jump c, b:, store r0 r0 0, c:, jump a",
        )

    def test_one_round_makes_way_for_another(self):
        # Each row is needed by the one behind it alone.
        self.assert_short(
            "copy r1 r0, copy r2 r1, copy r3 r2, set r3 0, set r2 0, set r1 0", "set r3 0, set r2 0, set r1 0"
        )
        # What is led on leaves the row between unreached, and the jump leads to the next row then.
        self.assert_short("jump x, y:, set r0 1, stop, x:, jump y", "set r0 1, stop")

    def test_led_on_anew_each_time(self):
        # The jump to x leads on once the row between, which is not needed, is gone.
        self.assert_short(
            "when carry x, store r0 r0 0, x:, set r1 1, jump y, store r0 r0 1, y:, set r1 2",
            "when carry a, store r0 r0 0, a:, set r1 2",
        )
        self.assert_short(
            "when carry x, store r0 r0 0, stop, x:, copy r1 r1, jump y, y:, store r0 r0 1",
            "when carry a, store r0 r0 0, stop, a:, store r0 r0 1",
        )

    def test_one_kind_a_round_the_first_that_there_is(self):
        # A row that isn't reached needs r0 behind the jump; were the last kind taken out first, or all at
        # once by what was needed ahead of that, other rows would be left.
        for text, kinds in (
            ("set r0 1, stop, jump x, x:", [0]),
            ("jump x, x:, copy r0 r0, set r0 1, set r0 2, stop, stop", [0, 1, 2, 3]),
            ("set r0 1, set r0 2, copy r1 r1, jump x, x:", [1, 2, 3]),
            ("set r0 1, copy r0 r0, set r0 2", [2, 3]),
            ("copy r0 r0, set r0 2, jump x, stop, x:, jump y, y:", [0, 1, 2]),
        ):
            wanted, met = short_by_rounds(program(text))
            self.assertEqual(met, kinds, text)
            self.assert_told(self.tell(short, program(text)), wanted)

    def test_it_is_labelled_plainly(self):
        self.assert_short(
            "z:, y:, store r0 r1 0, q:, when carry y, x:, unless sign w, jump z, w:",
            "a:, store r0 r1 0, when carry a, unless sign b, jump a, b:",
        )

    def test_by_rounds(self):
        rounds = set()
        for seed in range(150):
            items = some_program(seed, rows=10 + seed % 30, jumps=2 + seed % 5, stops=seed % 3, labels=6)
            wanted, kinds = short_by_rounds(items)
            rounds.add(tuple(kinds))
            self.assert_told(self.tell(short, items), wanted)
        self.assertGreater(len(rounds), 10)
        self.assertGreater(max(len(kinds) for kinds in rounds), 4)

    def test_what_is_promised_of_it(self):
        stood, shorter = {True: 0, False: 0}, 0
        for seed in range(200):
            items = some_program(seed, rows=8 + seed % 30, jumps=1 + seed % 5, stops=seed % 3, labels=5)
            told = short(items)
            shorter += len(rows_of(told)) < len(rows_of(items))
            self.assertIs(is_program(told), True)
            self.assertLessEqual(len(rows_of(told)), len(rows_of(items)))
            self.assert_told(self.tell(idle, told), [])
            self.assert_told(self.tell(short, told), told)
            for turn in range(3):
                registers, memory = some_state(1000 * turn + seed)
                stood[self.assert_ends_alike(items, told, registers, memory)] += 1
        self.assertGreater(shorter, 100)
        self.assertGreater(min(stood.values()), 50)

    def assert_ends_alike(self, items, told, registers, memory):
        one, other = RowMachine(items, registers, memory), RowMachine(told, registers, memory)
        one.run(500)
        other.run(500)
        if one.stands():
            self.assertIs(other.stands(), True)
            self.assertLessEqual(other.steps(), one.steps())
            self.assert_told(told_by(other)[3:], told_by(one)[3:])
        elif other.stands():
            # The long one may only need more steps than it was given.
            one.run(20000)
            self.assertIs(one.stands(), True)
        return one.stands()

    def test_many_rounds_of_most_items(self):
        # A circle that is gone through each time, and rows that fall out one by one.
        items = [("when", "carry", name_of(0))]
        items.extend(("copy", number % 7 + 1, number % 7) for number in range(196))
        items.extend(("set", number, 0) for number in range(8))
        items.append(("stop",))
        for number in range(90):
            items.extend([("label", name_of(number)), ("jump", name_of((number + 1) % 90))])
        told = short(items)
        self.assert_told(short(told), told)
        self.assert_told(idle(told), [])
        self.assertLess(len(told), len(items) - 180)


if __name__ == "__main__":
    unittest.main()
