"""The machine over words."""

from markrun.machine import Machine
from markrun.unwords import table_of


class WordMachine(Machine):
    def __init__(self, words, registers=None, memory=None):
        # Reading the words first refuses bad ones ahead of all else.
        table = table_of(words)
        Machine.__init__(self, table, len(words), registers, memory)
