import itertools
import random
import unittest

from markrun.flow import next_rows, put, used
from markrun.items import rows_of
from markrun.needs import needs
from markrun.plainly import name_of
from markrun.rowrun import RowMachine
from model import Model
from programs import program, some_program
from running import EDGES, some_state, told_by
from telling import TellingCase

ALL = 2047
CARRY, NOUGHT, SIGN = 256, 512, 1024


class Needs(TellingCase):
    def assert_needs(self, text, wanted):
        with self.subTest(text=text):
            self.assert_told(self.tell(needs, program(text)), wanted)

    def test_the_end(self):
        self.assert_needs("", [ALL])
        self.assert_needs("a:, b:", [ALL])

    def test_examples(self):
        self.assert_needs("stop", [ALL, ALL])
        self.assert_needs("set r0 1", [ALL - 1, ALL])
        self.assert_needs("set r0 1, stop", [ALL - 1, ALL, ALL])
        self.assert_needs("copy r0 r1, set r1 5, set r0 6", [ALL - 1, ALL - 3, ALL - 1, ALL])
        self.assert_needs("high r0 1", [ALL, ALL])
        self.assert_needs("add r0 r1", [255, ALL])
        self.assert_needs("addc r0 r1", [255 + CARRY, ALL])
        self.assert_needs("test r0 r1", [255, ALL])
        self.assert_needs("and r0 r1", [255 + CARRY, ALL])
        self.assert_needs("left r0 0", [255 + CARRY, ALL])
        self.assert_needs("left r0 1", [255, ALL])
        self.assert_needs("store r0 r1 0, set r0 1, set r1 2", [ALL, ALL - 3, ALL - 2, ALL])
        self.assert_needs("load r0 r1 0, set r1 2", [ALL - 1, ALL - 2, ALL])
        self.assert_needs("set r0 1, set r0 2", [ALL - 1, ALL - 1, ALL])

    def test_jumps(self):
        self.assert_needs("jump a, set r0 1, a:, set r1 1", [ALL - 2, ALL - 3, ALL - 2, ALL])
        self.assert_needs("when carry a, set r0 1, a:, set r1 1", [ALL - 2, ALL - 3, ALL - 2, ALL])
        self.assert_needs(
            "unless sign a, test r0 r0, jump b, a:, add r1 r1, b:, sub r2 r2", [255 + SIGN, 255, 255, 255, 255, ALL]
        )

    def test_what_isnt_put_on_every_way_stays_needed(self):
        self.assert_needs("when nought a, set r0 1, stop, a:, set r0 2", [ALL - 1, ALL - 1, ALL, ALL - 1, ALL])
        self.assert_needs("when nought a, set r0 1, stop, a:, set r1 2", [ALL, ALL - 1, ALL, ALL - 2, ALL])

    def test_ways_round(self):
        # Nothing is ever needed where there is no way out.
        self.assert_needs("a:, jump a", [0, ALL])
        self.assert_needs("a:, set r0 1, jump a", [0, 0, ALL])
        self.assert_needs("a:, add r0 r1, jump a", [3, 3, ALL])
        self.assert_needs("a:, add r0 r1, store r2 r0 0, jump a", [7, 7, 7, ALL])
        self.assert_needs("a:, subc r0 r1, unless nought a", [255 + CARRY, ALL, ALL])
        self.assert_needs("set r0 5, a:, copy r3 r2, copy r2 r1, jump a", [6, 6, 2, 6, ALL])

    def test_rows_that_are_not_reached_have_needs_too(self):
        self.assert_needs("stop, set r0 1, stop", [ALL, ALL - 1, ALL, ALL])
        self.assert_needs("jump end, a:, addc r0 r1, jump a, end:", [ALL, 3 + CARRY, 3 + CARRY, ALL])
        # What comes from a row that isn't reached needs nothing of the rows ahead of it.
        self.assert_needs("set r0 1, jump b, store r0 r0 0, b:, set r0 2", [ALL - 1, ALL - 1, ALL, ALL - 1, ALL])

    def test_the_rule_is_kept(self):
        for seed in range(60):
            items = some_program(seed, rows=30, jumps=3, stops=2, labels=5)
            rows, told = rows_of(items), self.tell(needs, items)
            self.assert_told(len(told), len(rows) + 1)
            self.assert_told(told[-1], ALL)
            for number, row in enumerate(rows):
                behind = 0
                for other in next_rows(items, number):
                    behind |= told[other]
                self.assert_told(told[number], used(row) | (behind & ~put(row)))

    def test_it_is_the_least_of_all_lists(self):
        # Bits hang on no other bits, so each is gone through by itself.
        round_met = 0
        for seed in range(60):
            items = some_program(seed, rows=6, jumps=5, stops=seed % 2, labels=3)
            told = self.tell(needs, items)
            rows = rows_of(items)
            ways = [next_rows(items, number) for number in range(len(rows))]
            round_met += any(min(way, default=9) <= number for number, way in enumerate(ways))
            for bit in range(11):
                kept = [
                    bits for bits in itertools.product((0, 1), repeat=len(rows))
                    if self.has_what_is_asked(bits + (1,), bit, rows, ways)
                ]
                least = [min(bits[number] for bits in kept) for number in range(len(rows))]
                self.assertEqual([need >> bit & 1 for need in told], least + [1])
        self.assertGreater(round_met, 20)

    def has_what_is_asked(self, bits, bit, rows, ways):
        for number, row in enumerate(rows):
            behind = any(bits[other] for other in ways[number])
            asked = used(row) >> bit & 1 or (behind and not put(row) >> bit & 1)
            if asked and not bits[number]:
                return False
        return True

    def test_a_program_of_most_items_that_goes_backwards(self):
        # Each pair of rows leads to the pair ahead of it.
        items = [("jump", name_of(132))]
        for number in range(133):
            items.extend([("label", name_of(number)), ("set", number % 8, 5)])
            items.append(("jump", name_of(number - 1)) if number else ("addc", 0, 0))
        # Only row 2, to which all lead, looks at anything.
        self.assert_told(needs(items), [CARRY, CARRY, CARRY + 1] + [CARRY] * 264 + [ALL])


class NotNeeded(TellingCase):
    def twins(self, items, number, need, seed):
        """Two models ahead of a row that differ in all that isn't needed there."""
        chance = random.Random(seed)
        registers, memory = some_state(seed)
        one, other = Model(items, registers, memory), Model(items, registers, memory)
        for model in (one, other):
            model.place = number
        for place, mark in enumerate(("carry", "nought", "sign")):
            setattr(one, mark, chance.choice((False, True)))
            setattr(other, mark, getattr(one, mark) is bool(need >> 8 + place & 1))
        for place in range(8):
            if not need >> place & 1:
                other.words[place] = chance.choice([word for word in EDGES if word != one.words[place]])
        return one, other

    def test_machines_that_differ_in_nothing_else(self):
        stood, differed = {True: 0, False: 0}, 0
        for seed in range(150):
            items = some_program(seed, rows=20, jumps=2, stops=2, labels=4)
            for number, need in enumerate(needs(items)):
                one, other = self.twins(items, number, need, seed)
                differed += one.told() != other.told()
                for turn in range(60):
                    self.assertIs(one.stands(), other.stands())
                    one.step()
                    other.step()
                if one.stands():
                    self.assert_told(one.told(), other.told())
                stood[one.stands()] += 1
        self.assertGreater(min(stood.values()), 100)
        self.assertGreater(differed, 1000)

    def test_machines_from_registers_that_are_not_needed(self):
        for seed in range(60):
            items = some_program(seed, rows=20, jumps=2, labels=4)
            registers, memory = some_state(seed)
            need = needs(items)[0]
            others = [word if need >> number & 1 else 12345 for number, word in enumerate(registers)]
            one, other = RowMachine(items, registers, memory), RowMachine(items, others, memory)
            self.assert_told(one.run(200), other.run(200))
            self.assertIs(one.stands(), other.stands())
            if one.stands():
                self.assert_told(told_by(one), told_by(other))


if __name__ == "__main__":
    unittest.main()
