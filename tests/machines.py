"""Tests that hold of both machines: `made` makes one of a program's items, registers and memory, and
`places` tells the place of each row of a program, and of the end."""

from markrun.errors import BadState, NoAddress
from model import MASK, Model
from programs import OF_MEMORY, OF_NUMBERS, OF_TWO_REGISTERS, program, rows_at_the_ends, some_program
from running import EDGES, some_state, told_by
from telling import TellingCase, in_short, spoil

HALF = 2147483648
# Rows that make the marks what they are called by, without another register than 0 to 2.
MARKS_MADE = {
    (False, False, False): [("set", 0, 1), ("or", 0, 0)],
    (True, False, False): [("set", 0, 3), ("right", 0, 1)],
    (False, True, False): [("set", 0, 0), ("or", 0, 0)],
    (True, True, False): [("set", 0, 1), ("right", 0, 1)],
    (False, False, True): [("set", 0, 1), ("left", 0, 31)],
    (True, False, True): [("set", 0, 0), ("set", 1, 1), ("sub", 0, 1)],
}


class MachineCase(TellingCase):
    def with_marks(self, marks, row, one, other=0):
        """A machine behind a row done with these marks, register 3 being one and register 4 other."""
        ahead = MARKS_MADE[marks]
        machine = self.made(ahead + [row], [0, 0, 0, one, other, 55, 66, 77])
        self.assertEqual(machine.run(len(ahead)), len(ahead))
        self.assert_told(machine.marks(), marks)
        self.assertIs(machine.step(), True)
        return machine


class Deeds(MachineCase):
    def assert_done(self, row, registers, wanted, memory=None, left=None):
        """Behind the one row these are the registers, and the memory what is left; marks stay."""
        for marks, ahead in MARKS_MADE.items():
            machine = self.made(ahead + [row] + [("stop",)], registers, memory)
            machine.run(len(ahead))
            for number in range(2):
                self.assertNotEqual(number, row[1], "the rows ahead use these")
            before = machine.registers()[:2]
            self.assertIs(machine.step(), True)
            self.assert_told(machine.registers(), before + wanted[2:])
            self.assert_told(machine.marks(), marks)
            self.assert_told(machine.memory(), (memory or []) if left is None else left)
            self.assert_told(machine.place(), len(ahead) + 1)

    def test_set(self):
        for n in (0, 1, 32768, 65535):
            for word in EDGES:
                self.assert_done(("set", 7, n), [0, 0, 2, 3, 4, 5, 6, word], [0, 0, 2, 3, 4, 5, 6, n])

    def test_high(self):
        for word, n, wanted in (
            (0, 0, 0), (0, 1, 65536), (0, 65535, 4294901760), (MASK, 0, 65535), (MASK, 65535, MASK),
            (0x12345678, 0xABCD, 0xABCD5678), (HALF, 0, 0), (HALF + 5, 32767, 0x7FFF0005),
        ):
            self.assert_done(("high", 2, n), [0, 0, word, 3, 4, 5, 6, 7], [0, 0, wanted, 3, 4, 5, 6, 7])

    def test_copy(self):
        for word in EDGES:
            self.assert_done(("copy", 2, 3), [0, 0, 9, word, 4, 5, 6, 7], [0, 0, word, word, 4, 5, 6, 7])
            self.assert_done(("copy", 3, 3), [0, 0, 9, word, 4, 5, 6, 7], [0, 0, 9, word, 4, 5, 6, 7])

    def assert_reckoned(self, kind, one, other, carry, word, marks):
        before = [marks_made for marks_made in MARKS_MADE if marks_made[0] is carry]
        for ahead in before:
            machine = self.with_marks(ahead, (kind, 3, 4), one, other)
            self.assert_told(machine.registers()[3:], [word, other, 55, 66, 77])
            self.assert_told(machine.marks(), (ahead[0] if marks[0] is None else marks[0],) + marks[1:])
            self.assert_told(machine.memory(), [])
            self.assert_told(machine.place(), len(MARKS_MADE[ahead]) + 1)

    def test_add_and_addc(self):
        for carry in (False, True):
            for one in EDGES:
                for other in EDGES:
                    for kind, more in (("add", 0), ("addc", 1 if carry else 0)):
                        whole = one + other + more
                        word = whole % 4294967296
                        self.assert_reckoned(
                            kind, one, other, carry, word, (whole > MASK, word == 0, word >= HALF)
                        )

    def test_sub_subc_and_test(self):
        for carry in (False, True):
            for one in EDGES:
                for other in EDGES:
                    for kind, less in (("sub", 0), ("subc", 1 if carry else 0), ("test", 0)):
                        whole = one - other - less
                        word = whole % 4294967296
                        left = one if kind == "test" else word
                        self.assert_reckoned(kind, one, other, carry, left, (whole < 0, word == 0, word >= HALF))

    def test_examples_of_sums(self):
        self.assert_reckoned("add", MASK, 1, False, 0, (True, True, False))
        self.assert_reckoned("addc", MASK, 0, True, 0, (True, True, False))
        self.assert_reckoned("add", MASK, 0, True, MASK, (False, False, True))
        self.assert_reckoned("sub", 0, 1, True, MASK, (True, False, True))
        self.assert_reckoned("subc", 1, 0, True, 0, (False, True, False))
        self.assert_reckoned("subc", 0, MASK, True, 0, (True, True, False))
        self.assert_reckoned("test", 5, 5, True, 5, (False, True, False))

    def test_and_or_xor(self):
        for carry in (False, True):
            for one in EDGES + (0x0F0F0F0F,):
                for other in EDGES + (0xFF00FF00,):
                    for kind, word in (("and", one & other), ("or", one | other), ("xor", one ^ other)):
                        self.assert_reckoned(kind, one, other, carry, word, (None, word == 0, word >= HALF))

    def test_d_and_s_the_same(self):
        for kind, word, wanted, marks in (
            ("add", HALF, 0, (True, True, False)), ("add", 3, 6, (False, False, False)),
            ("sub", 7, 0, (False, True, False)), ("test", 7, 7, (False, True, False)),
            ("and", HALF, HALF, (True, False, True)), ("or", 5, 5, (True, False, False)),
            ("xor", MASK, 0, (True, True, False)), ("addc", MASK, MASK, (True, False, True)),
            ("subc", 9, MASK, (True, False, True)),
        ):
            machine = self.with_marks((True, False, False), (kind, 3, 3), word)
            self.assert_told(machine.registers()[3:], [wanted, 0, 55, 66, 77])
            self.assert_told(machine.marks(), marks)

    def test_left_and_right(self):
        for kind, n, one, word, marks in (
            ("left", 0, 0, 0, (None, True, False)), ("left", 0, HALF, HALF, (None, False, True)),
            ("left", 0, 1, 1, (None, False, False)), ("left", 1, HALF, 0, (True, True, False)),
            ("left", 1, HALF - 1, MASK - 1, (False, False, True)), ("left", 1, MASK, MASK - 1, (True, False, True)),
            ("left", 1, 0, 0, (False, True, False)), ("left", 31, 1, HALF, (False, False, True)),
            ("left", 31, 2, 0, (True, True, False)), ("left", 31, 3, HALF, (True, False, True)),
            ("left", 31, 4, 0, (False, True, False)), ("left", 4, 0x12345678, 0x23456780, (True, False, False)),
            ("right", 0, 0, 0, (None, True, False)), ("right", 0, MASK, MASK, (None, False, True)),
            ("right", 0, 1, 1, (None, False, False)), ("right", 1, 1, 0, (True, True, False)),
            ("right", 1, 2, 1, (False, False, False)), ("right", 1, MASK, HALF - 1, (True, False, False)),
            ("right", 31, HALF, 1, (False, False, False)), ("right", 31, HALF // 2, 0, (True, True, False)),
            ("right", 31, MASK, 1, (True, False, False)), ("right", 4, 0x12345678, 0x01234567, (True, False, False)),
        ):
            for ahead in MARKS_MADE:
                machine = self.with_marks(ahead, (kind, 3, n), one, 9)
                self.assert_told(machine.registers()[3:], [word, 9, 55, 66, 77])
                self.assert_told(machine.marks(), (ahead[0] if marks[0] is None else marks[0],) + marks[1:])

    def test_load(self):
        memory = [(0, 1), (1, 2), (254, 3), (255, 4), (256, 128), (65534, 200), (65535, 255)]
        for s, n, byte in (
            (0, 0, 1), (0, 1, 2), (1, 0, 2), (0, 2, 0), (0, 255, 4), (1, 255, 128), (65535, 0, 255), (65534, 0, 200),
            (65280, 255, 255), (65535, 1, 1), (65535, 2, 2), (65281, 255, 1), (65535, 255, 3), (65536, 0, 1),
            (65537, 255, 128), (MASK, 0, 255), (MASK, 1, 1), (MASK, 255, 3), (HALF, 1, 2), (0x12340000, 255, 4),
        ):
            registers = [0, 0, 999, s, 4, 5, 6, 7]
            self.assert_done(("load", 2, 3, n), registers, [0, 0, byte, s, 4, 5, 6, 7], memory)
            self.assert_done(("load", 3, 3, n), registers, [0, 0, 999, byte, 4, 5, 6, 7], memory)

    def test_loadw(self):
        memory = [(0, 1), (1, 2), (2, 3), (3, 4), (4, 255), (65533, 16), (65534, 32), (65535, 64)]
        for s, n, word in (
            (0, 0, 0x04030201), (0, 1, 0xFF040302), (1, 0, 0xFF040302), (0, 4, 255), (0, 5, 0),
            (65532, 0, 0x40201000), (65533, 0, 0x01402010), (65534, 0, 0x02014020), (65535, 0, 0x03020140),
            (65535, 1, 0x04030201), (65280, 255, 0x03020140), (65281, 255, 0x04030201), (MASK, 0, 0x03020140),
            (MASK, 3, 0x00FF0403), (HALF + 65535, 2, 0xFF040302),
        ):
            registers = [0, 0, 999, s, 4, 5, 6, 7]
            self.assert_done(("loadw", 2, 3, n), registers, [0, 0, word, s, 4, 5, 6, 7], memory)
            self.assert_done(("loadw", 3, 3, n), registers, [0, 0, 999, word, 4, 5, 6, 7], memory)

    def test_store(self):
        memory = [(0, 9), (7, 9), (65535, 9)]
        for d, s, n, left in (
            (1, 5, 0, [(0, 9), (5, 1), (7, 9), (65535, 9)]), (0x12345678, 0, 255, [(0, 9), (7, 9), (255, 0x78), (65535, 9)]),
            (255, 0, 0, [(0, 255), (7, 9), (65535, 9)]), (0, 0, 0, [(7, 9), (65535, 9)]),
            (256, 7, 0, [(0, 9), (65535, 9)]), (MASK, 65535, 0, [(0, 9), (7, 9), (65535, 255)]),
            (511, 65535, 1, [(0, 255), (7, 9), (65535, 9)]), (HALF, 65535, 8, [(0, 9), (65535, 9)]),
            (2, MASK, 0, [(0, 9), (7, 9), (65535, 2)]), (3, MASK, 1, [(0, 3), (7, 9), (65535, 9)]),
            (0, 65281, 254, [(0, 9), (7, 9)]), (4, 131072, 3, [(0, 9), (3, 4), (7, 9), (65535, 9)]),
            (0, 100, 0, [(0, 9), (7, 9), (65535, 9)]),
        ):
            registers = [0, 0, d, s, 4, 5, 6, 7]
            self.assert_done(("store", 2, 3, n), registers, registers, memory, left)

    def test_storew(self):
        memory = [(0, 9), (2, 9), (65534, 9)]
        for d, s, n, left in (
            (0x04030201, 10, 0, [(0, 9), (2, 9), (10, 1), (11, 2), (12, 3), (13, 4), (65534, 9)]),
            (0x04030201, 0, 0, [(0, 1), (1, 2), (2, 3), (3, 4), (65534, 9)]),
            (0x04000001, 0, 0, [(0, 1), (3, 4), (65534, 9)]), (0, 0, 0, [(65534, 9)]),
            (MASK, 65535, 0, [(0, 255), (1, 255), (2, 255), (65534, 9), (65535, 255)]),
            (0x04030201, 65534, 0, [(0, 3), (1, 4), (2, 9), (65534, 1), (65535, 2)]),
            (0x04030201, 65533, 0, [(0, 4), (2, 9), (65533, 1), (65534, 2), (65535, 3)]),
            (0x04030201, 65532, 0, [(0, 9), (2, 9), (65532, 1), (65533, 2), (65534, 3), (65535, 4)]),
            (0x04030201, 65535, 1, [(0, 1), (1, 2), (2, 3), (3, 4), (65534, 9)]),
            (0, 65533, 0, [(2, 9)]), (0x01000000, MASK, 0, [(2, 1), (65534, 9)]),
            (0x04030201, MASK, 255, [(0, 9), (2, 9), (254, 1), (255, 2), (256, 3), (257, 4), (65534, 9)]),
        ):
            registers = [0, 0, d, s, 4, 5, 6, 7]
            self.assert_done(("storew", 2, 3, n), registers, registers, memory, left)

    def test_store_of_its_own_address(self):
        self.assert_done(("store", 3, 3, 1), [0, 0, 2, 300, 4, 5, 6, 7], [0, 0, 2, 300, 4, 5, 6, 7], [], [(301, 44)])
        self.assert_done(
            ("storew", 3, 3, 0), [0, 0, 2, 300, 4, 5, 6, 7], [0, 0, 2, 300, 4, 5, 6, 7], [], [(300, 44), (301, 1)]
        )

    def test_every_kind_against_the_model(self):
        for number, row in enumerate(rows_at_the_ends()):
            for marks, ahead in MARKS_MADE.items():
                registers, memory = some_state(number)
                machine = self.made(ahead + [row], registers, memory)
                model = Model(ahead + [row], registers, memory)
                for turn in range(len(ahead) + 1):
                    machine.step()
                    model.step()
                self.assert_told(told_by(machine), model.told())
        self.assertEqual(
            {row[0] for row in rows_at_the_ends()},
            set(OF_TWO_REGISTERS) | set(OF_MEMORY) | set(OF_NUMBERS) | {"stop"},
        )


class Jumps(MachineCase):
    def place_behind(self, marks, row, text):
        """The place behind the jump, counted from the jump; its labels stand in the text."""
        ahead = MARKS_MADE[marks]
        machine = self.made(ahead + program(text.replace("here", " ".join(row))))
        machine.run(len(ahead))
        at = machine.place()
        before = told_by(machine)
        while machine.place() == at and not machine.stands() and machine.steps() < len(ahead) + 1:
            self.assertIs(machine.step(), True)
        self.assert_told(told_by(machine)[1:2] + told_by(machine)[3:], (before[1] + 1,) + before[3:])
        return machine.place() - at

    def test_by_each_mark(self):
        for marks in MARKS_MADE:
            self.assert_told(self.place_behind(marks, ("jump", "a"), "here, set r5 1, set r5 2, a:, stop"), 3)
            for number, mark in enumerate(("carry", "nought", "sign")):
                for row, led in ((("when", mark, "a"), marks[number]), (("unless", mark, "a"), not marks[number])):
                    self.assert_told(
                        self.place_behind(marks, row, "here, set r5 1, set r5 2, a:, stop"), 3 if led else 1
                    )
                    self.assert_told(self.place_behind(marks, row, "a:, here, stop"), 0 if led else 1)
                    self.assert_told(self.place_behind(marks, row, "here, stop, stop, a:"), 3 if led else 1)
                    self.assert_told(self.place_behind(marks, row, "here, a:, stop"), 1)

    def test_back(self):
        machine = self.made(program("set r0 5, set r1 1, again:, sub r0 r1, unless nought again, set r2 9"))
        self.assert_told(machine.run(), 13)
        self.assert_told(machine.registers(), [0, 1, 9, 0, 0, 0, 0, 0])
        self.assert_told(machine.place(), 5)
        self.assertIs(machine.stands(), True)

    def test_to_itself_it_never_stands(self):
        machine = self.made(program("a:, jump a"))
        self.assert_told(machine.run(50), 50)
        self.assert_told(told_by(machine), (0, 50, False, [0] * 8, (False, False, False), []))
        self.assert_told(machine.run(), 1000)
        self.assert_told(machine.steps(), 1050)

    def test_a_label_of_several_and_one_at_the_end(self):
        machine = self.made(program("jump x, stop, y:, x:, z:, jump end, stop, end:"))
        self.assert_told(machine.run(), 2)
        self.assert_told(told_by(machine)[:3], (4, 2, True))


class Methods(MachineCase):
    def test_without_rows(self):
        for items in ([], program("a:, b:")):
            machine = self.made(items)
            self.assert_told(told_by(machine), (0, 0, True, [0] * 8, (False, False, False), []))
            self.assertIs(machine.step(), False)
            self.assert_told(machine.run(), 0)
            machine.again()
            self.assert_told(told_by(machine), (0, 0, True, [0] * 8, (False, False, False), []))

    def test_a_stop_at_once(self):
        machine = self.made(program("stop, set r0 1"), [1, 2, 3, 4, 5, 6, 7, 8], [(5, 6)])
        wanted = (0, 0, True, [1, 2, 3, 4, 5, 6, 7, 8], (False, False, False), [(5, 6)])
        self.assert_told(told_by(machine), wanted)
        self.assertIs(machine.step(), False)
        self.assert_told(told_by(machine), wanted)
        self.assert_told(machine.run(), 0)
        self.assert_told(told_by(machine), wanted)

    def test_behind_the_last_row(self):
        machine = self.made(program("set r0 7, or r0 r0"))
        self.assertIs(machine.stands(), False)
        self.assertIs(machine.step(), True)
        self.assertIs(machine.stands(), False)
        self.assert_told(machine.place(), 1)
        self.assertIs(machine.step(), True)
        wanted = (2, 2, True, [7, 0, 0, 0, 0, 0, 0, 0], (False, False, False), [])
        self.assert_told(told_by(machine), wanted)
        for turn in range(3):
            self.assertIs(machine.step(), False)
            self.assert_told(machine.run(5), 0)
            self.assert_told(told_by(machine), wanted)

    def test_a_stop_is_not_done(self):
        machine = self.made(program("set r0 1, set r1 2, stop, set r2 3"))
        self.assert_told(machine.run(), 2)
        self.assert_told(told_by(machine), (2, 2, True, [1, 2, 0, 0, 0, 0, 0, 0], (False, False, False), []))
        self.assertIs(machine.step(), False)
        self.assert_told(machine.steps(), 2)

    def test_run_by_most_steps(self):
        items = program("set r0 1, set r1 2, set r2 3, set r3 4, stop")
        for most, done in ((0, 0), (1, 1), (3, 3), (4, 4), (5, 4), (1000, 4)):
            machine = self.made(items)
            self.assert_told(machine.run(most), done)
            self.assert_told(machine.steps(), done)
            self.assert_told(machine.place(), done)
            self.assertIs(machine.stands(), done == 4)
            self.assert_told(machine.run(most=2), min(2, 4 - done))
            self.assert_told(machine.steps(), min(4, done + 2))

    def test_run_of_a_thousand_by_itself(self):
        for rows in (998, 999, 1000, 1001, 1002):
            machine = self.made([("set", 0, 1)] * rows)
            self.assert_told(machine.run(), min(rows, 1000))
            self.assertIs(machine.stands(), rows <= 1000)
            self.assert_told(machine.run(), max(0, rows - 1000))

    def test_again(self):
        items = program("set r0 1, sub r1 r0, store r0 r2 3, a:, add r0 r0, jump a")
        registers, memory = [9, 0, 5, 1, 2, 3, 4, 5], [(9, 0), (8, 77), (1, 1)]
        first = (0, 0, False, [9, 0, 5, 1, 2, 3, 4, 5], (False, False, False), [(1, 1), (8, 77)])
        machine = self.made(items, registers, memory)
        self.assert_told(told_by(machine), first)
        told = []
        for steps in (0, 1, 2, 3, 4, 20):
            machine.again()
            self.assert_told(told_by(machine), first)
            self.assert_told(machine.run(steps), steps)
            told.append(told_by(machine))
        self.assert_told(told[2], (2, 2, False, [1, MASK, 5, 1, 2, 3, 4, 5], (True, False, True), [(1, 1), (8, 77)]))
        self.assert_told(told[3][5], [(1, 1), (8, 1)])
        machine.again()
        self.assert_told(told_by(machine), first)
        machine.run(20)
        self.assert_told(told_by(machine), told[-1])

    def test_again_of_one_that_stands(self):
        machine = self.made(program("set r0 1, stop"))
        machine.run()
        self.assertIs(machine.stands(), True)
        machine.again()
        self.assert_told(told_by(machine), (0, 0, False, [0] * 8, (False, False, False), []))
        self.assertIs(machine.step(), True)

    def test_bytes(self):
        machine = self.made(program("storew r0 r1 0"), [0x04030201, 65534, 0, 0, 0, 0, 0, 0], [(7, 9), (65535, 1)])
        for address, byte in ((0, 0), (7, 9), (8, 0), (65534, 0), (65535, 1)):
            self.assert_told(machine.byte(address), byte)
        machine.run()
        for address, byte in ((0, 3), (1, 4), (2, 0), (7, 9), (65534, 1), (65535, 2), (65533, 0)):
            self.assert_told(machine.byte(address), byte)
        self.assert_told(machine.memory(), [(0, 3), (1, 4), (7, 9), (65534, 1), (65535, 2)])

    def test_no_address(self):
        machine = self.made([], None, [(0, 5), (1, 6)])
        for address in (
            -1, -65536, 65536, 65537, 4294967296, 10 ** 5000, -10 ** 5000, True, False, "", "0", "1", None, [], (), [0],
            (0,), (0, 5),
        ):
            with self.subTest(address=in_short(address)):
                self.refuse(NoAddress, machine.byte, address)
        self.assert_told(machine.memory(), [(0, 5), (1, 6)])

    def test_asking_changes_nothing(self):
        machine = self.made(program("add r0 r1, store r0 r0 0, jump a, a:, stop"), [1] * 8, [(3, 4)])
        for turn in range(4):
            before = told_by(machine)
            machine.byte(3)
            self.assert_told(told_by(machine), before)
            machine.step()

    def test_lists_that_were_told_are_the_askers_own(self):
        machine = self.made(program("add r0 r1, store r0 r0 0, stop"), [1] * 8, [(3, 4)])
        for turn in range(3):
            before = told_by(machine)
            spoil(told_by(machine))
            machine.registers()[0] = 99
            machine.memory().append((9, 9))
            self.assert_told(told_by(machine), before)
            machine.step()
        machine.again()
        self.assert_told(told_by(machine), (0, 0, False, [1] * 8, (False, False, False), [(3, 4)]))

    def test_what_was_told_stays_as_it_was(self):
        machine = self.made(program("add r0 r1, store r0 r0 0, stop"), [1] * 8, [(3, 4)])
        registers, memory, marks = machine.registers(), machine.memory(), machine.marks()
        machine.run()
        machine.again()
        machine.run(1)
        self.assert_told((registers, memory, marks), ([1] * 8, [(3, 4)], (False, False, False)))

    def test_two_machines_of_one_program(self):
        items, registers, memory = program("add r0 r1, store r0 r0 0, stop"), [1] * 8, [(3, 4)]
        one, other = self.made(items, registers, memory), self.made(items, registers, memory)
        one.run()
        self.assert_told(told_by(other), (0, 0, False, [1] * 8, (False, False, False), [(3, 4)]))

    def test_programs_by_chance_against_the_model(self):
        stood = 0
        for seed in range(120):
            items = some_program(seed, rows=5 + seed % 30, jumps=seed % 6, labels=4)
            registers, memory = some_state(seed)
            machine, model = self.made(items, registers, memory), Model(items, registers, memory)
            places = self.places(items)
            for turn in range(60):
                wanted = model.told()
                self.assert_told(told_by(machine), (places[wanted[0]],) + wanted[1:])
                self.assertIs(machine.step(), not model.stands())
                model.step()
            stood += machine.stands()
        self.assertGreater(stood, 30)


class States(MachineCase):
    def test_nothing_handed_in(self):
        for machine in (self.made([]), self.made([], None, None), self.made([], memory=None, registers=None)):
            self.assert_told(machine.registers(), [0] * 8)
            self.assert_told(machine.memory(), [])
            self.assert_told(machine.marks(), (False, False, False))

    def test_registers(self):
        for registers in ([0] * 8, [MASK] * 8, [0, 1, 2, HALF, MASK, 5, 6, 7]):
            self.assert_told(self.made([], registers).registers(), registers)
            self.assert_told(self.made([], registers=registers).registers(), registers)

    def test_memory_in_any_order_and_with_noughts(self):
        for memory, wanted in (
            ([], []), ([(0, 0)], []), ([(0, 1)], [(0, 1)]), ([(65535, 255)], [(65535, 255)]),
            ([(9, 1), (3, 2), (7, 0), (65535, 3), (0, 4)], [(0, 4), (3, 2), (9, 1), (65535, 3)]),
            ([(0, 0), (1, 1)], [(1, 1)]),
        ):
            self.assert_told(self.made([], None, memory).memory(), wanted)
            self.assert_told(self.made([], memory=memory).memory(), wanted)

    def test_a_whole_memory(self):
        memory = [(address, 1 + address % 255) for address in reversed(range(65536))]
        self.assert_told(self.made([], None, memory).memory(), sorted(memory))

    def test_bad_registers(self):
        for registers in (
            [], [0] * 7, [0] * 9, (0,) * 8, "00000000", 0, 8, True, False, "", (), {}, [[0] * 8], [None] * 8,
        ):
            with self.subTest(registers=registers):
                self.refuse(BadState, self.made, [], registers)
        for thing in (
            -1, 4294967296, 10 ** 5000, -10 ** 5000, True, False, None, "", "0", "r0", [], [0], (), (0,), (1, 2),
        ):
            for place in range(8):
                registers = [0] * 8
                registers[place] = thing
                with self.subTest(thing=in_short(thing), place=place):
                    self.refuse(BadState, self.made, program("stop"), registers)
                    self.refuse(BadState, self.made, [], registers, [(0, 1)])

    def test_bad_memory(self):
        for memory in ((), ((0, 1),), (0, 1), "", "01", 0, 1, True, False, {}, {0: 1}):
            with self.subTest(memory=memory):
                self.refuse(BadState, self.made, [], None, memory)
        for thing in (
            [0, 1], [], (), (0,), (0, 1, 2), ((0, 1),), [(0, 1)], "01", "", 0, 1, None, True, False,
            (-1, 1), (65536, 1), (10 ** 5000, 1), (True, 1), (False, 1), (None, 1), ("0", 1), ([], 1), ((), 1),
            (0, -1), (0, 256), (0, 10 ** 5000), (0, True), (0, False), (0, None), (0, "1"), (0, []), (0, (1,)),
        ):
            for memory in ([thing], [(5, 5), thing], [thing, (5, 5)], [(5, 5), thing, (6, 6)]):
                with self.subTest(memory=in_short(memory)):
                    self.refuse(BadState, self.made, [], None, memory)
                    self.refuse(BadState, self.made, program("stop"), [1] * 8, memory)

    def test_an_address_twice(self):
        for memory in (
            [(0, 1), (0, 1)], [(0, 0), (0, 0)], [(0, 1), (0, 2)], [(5, 1), (6, 1), (5, 0)], [(65535, 1), (1, 1), (65535, 2)],
        ):
            self.refuse(BadState, self.made, [], None, memory)

    def test_both_bad(self):
        self.refuse(BadState, self.made, [], [0] * 7, [(0, 256)])
