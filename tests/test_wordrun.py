import unittest

import machines
from markrun.errors import BadState, BadWords
from markrun.items import rows_of
from markrun.places import addresses
from markrun.reach import far_rows
from markrun.rowrun import RowMachine
from markrun.unwords import read_words
from markrun.wordrun import WordMachine
from markrun.words import written
from programs import program, some_program
from running import some_state, told_by
from telling import TellingCase
from wording import jump_numbers, written_far

FAR_JUMP = 0xA8000000
NOTHING = (False, False, False)


def made(items, registers=None, memory=None):
    return WordMachine(written(items), registers, memory)


class WordDeeds(machines.Deeds):
    made = staticmethod(made)


class WordJumps(machines.Jumps):
    made = staticmethod(made)


class WordMethods(machines.Methods):
    made = staticmethod(made)

    def places(self, items):
        return addresses(items, far_rows(items))


class WordStates(machines.States):
    made = staticmethod(made)


class Alike(TellingCase):
    def assert_alike(self, items, words, at, seed, steps=80):
        registers, memory = some_state(seed)
        rows = RowMachine(items, registers, memory)
        machine = WordMachine(words, registers, memory)
        for turn in range(steps):
            told = told_by(rows)
            self.assert_told(told_by(machine), (at[told[0]],) + told[1:])
            self.assertIs(machine.step(), rows.step())
        rows.again()
        machine.again()
        self.assert_told(told_by(machine), told_by(rows))
        self.assert_told(machine.run(steps // 2), rows.run(steps // 2))
        self.assert_told(told_by(machine)[1:], told_by(rows)[1:])
        self.assert_told(machine.place(), at[rows.place()])
        return rows.stands()

    def test_written_words_with_far_jumps_among_them(self):
        stood, far_met = set(), 0
        for seed in range(100):
            items = some_program(seed, rows=30 + seed, jumps=1 + seed % 4, labels=6)
            far = far_rows(items)
            far_met += len(far)
            stood.add(self.assert_alike(items, written(items), addresses(items, far), seed))
        self.assertEqual(stood, {True, False})
        self.assertGreater(far_met, 300)

    def test_far_jumps_that_could_be_near(self):
        for seed in range(60):
            items = some_program(seed, rows=20, jumps=3, labels=4)
            words = written_far(items)
            self.assert_alike(items, words, addresses(items, jump_numbers(items)), seed)

    def test_the_program_that_is_read_back(self):
        for seed in range(20):
            items = some_program(seed, rows=50, jumps=3, labels=4)
            self.assert_alike(read_words(written(items)), written(items), addresses(items, far_rows(items)), seed)

    def test_on_and_back_over_far_jumps(self):
        items = program("set r0 3, set r1 1, back:, sub r0 r1, when nought end, jump on")
        items += [("set", 7, 9)] * 20 + program("on:, add r2 r1, jump back, end:, stop")
        words = written(items)
        self.assertEqual(len(words), len(rows_of(items)) + 3)
        machine = WordMachine(words)
        told = []
        while machine.step():
            told.append(machine.place())
        self.assert_told(told, [1, 2, 3, 5, 27, 28, 2, 3, 5, 27, 28, 2, 3, 30])
        self.assert_told(told_by(machine), (30, 14, True, [0, 1, 2, 0, 0, 0, 0, 0], (False, True, False), []))


class Words(TellingCase):
    def test_words_of_nothing(self):
        machine = WordMachine([])
        self.assert_told(told_by(machine), (0, 0, True, [0] * 8, NOTHING, []))
        self.assertIs(machine.step(), False)
        self.assert_told(machine.run(), 0)

    def test_the_end_behind_a_far_jump(self):
        machine = WordMachine([FAR_JUMP, 2])
        self.assert_told(told_by(machine), (0, 0, False, [0] * 8, NOTHING, []))
        self.assertIs(machine.step(), True)
        self.assert_told(told_by(machine), (2, 1, True, [0] * 8, NOTHING, []))
        self.assertIs(machine.step(), False)

    def test_a_far_jump_that_is_not_led(self):
        # when carry, to the end; then stop; the second word is passed over.
        machine = WordMachine([0xB0000000, 3, 0])
        self.assertIs(machine.step(), True)
        self.assert_told(told_by(machine), (2, 1, True, [0] * 8, NOTHING, []))

    def test_a_far_jump_to_itself(self):
        machine = WordMachine([FAR_JUMP, 0])
        self.assert_told(machine.run(7), 7)
        self.assert_told(told_by(machine), (0, 7, False, [0] * 8, NOTHING, []))

    def test_by_names(self):
        machine = WordMachine(words=[0x08000001], registers=[5] * 8, memory=[(1, 2)])
        machine.run()
        self.assert_told(told_by(machine), (1, 1, True, [1] + [5] * 7, NOTHING, [(1, 2)]))

    def test_what_was_handed_in_is_not_changed_and_may_be(self):
        words, registers, memory = [0x08000005, 0x8B800000, FAR_JUMP, 2, 0], [1, 2, 3, 4, 5, 6, 7, 8], [(9, 9), (4, 0)]
        kept = (list(words), list(registers), list(memory))
        machine = WordMachine(words, registers, memory)
        first = told_by(machine)
        machine.run()
        last = told_by(machine)
        machine.again()
        self.assert_told((words, registers, memory), kept)
        words[0] = 0
        words.clear()
        registers[3] = 77
        memory.append((100, 100))
        self.assert_told(told_by(machine), first)
        self.assert_told(machine.run(), 3)
        self.assert_told(told_by(machine), last)
        self.assert_told(last[:3], (4, 3, True))

    def test_bad_words_ahead_of_all_else(self):
        for words in (
            [4294967295], [1], [FAR_JUMP], [0, 0xC0000000], [0x9000001F], [0x90000002], [FAR_JUMP, 1],
            [FAR_JUMP, 3], [0x90000002, FAR_JUMP, 0], [0x9B000000],
        ):
            with self.subTest(words=words):
                self.refuse(BadWords, read_words, words)
                self.refuse(BadWords, WordMachine, words)
                for registers in (None, [0] * 8, [0] * 7, (), [True] * 8, 0):
                    for memory in (None, [], [(0, 256)], [(1, 1), (1, 1)], ()):
                        self.refuse(BadWords, WordMachine, words, registers, memory)

    def test_bad_state(self):
        for words in ([], [0], [FAR_JUMP, 2]):
            self.refuse(BadState, WordMachine, words, [0] * 7)
            self.refuse(BadState, WordMachine, words, [0] * 7 + [True])
            self.refuse(BadState, WordMachine, words, None, [(65536, 1)])
            self.refuse(BadState, WordMachine, words, None, [[0, 1]])


if __name__ == "__main__":
    unittest.main()
