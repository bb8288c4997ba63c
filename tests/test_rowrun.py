import unittest

import machines
from markrun.rowrun import RowMachine
from programs import program
from running import told_by
from telling import TellingCase


class RowDeeds(machines.Deeds):
    made = RowMachine


class RowJumps(machines.Jumps):
    made = RowMachine


class RowMethods(machines.Methods):
    made = RowMachine

    def places(self, items):
        return list(range(len(items) + 1))


class RowStates(machines.States):
    made = RowMachine


class Rows(TellingCase):
    def test_what_was_handed_in_is_not_changed_and_may_be(self):
        items = program("a:, set r0 5, storew r0 r1 0, jump b, b:, stop")
        registers, memory = [1, 2, 3, 4, 5, 6, 7, 8], [(9, 9), (2, 2), (4, 0)]
        kept = (list(items), list(registers), list(memory))
        machine = RowMachine(items, registers, memory)
        machine.run()
        machine.again()
        self.assert_told((items, registers, memory), kept)
        first = told_by(machine)
        items.clear()
        registers[0] = 77
        memory.append((100, 100))
        self.assert_told(told_by(machine), first)
        self.assert_told(machine.run(), 3)
        self.assert_told(told_by(machine)[:3], (3, 3, True))
        machine.again()
        self.assert_told(told_by(machine), first)

    def test_by_names(self):
        machine = RowMachine(items=program("set r0 1"), registers=[5] * 8, memory=[(1, 2)])
        machine.run()
        self.assert_told(told_by(machine), (1, 1, True, [1] + [5] * 7, (False, False, False), [(1, 2)]))


if __name__ == "__main__":
    unittest.main()
