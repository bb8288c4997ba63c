"""From texts to words and back, and what a text's program leaves."""

from markrun.shorter import short
from markrun.texts import read, shown
from markrun.unwords import read_words
from markrun.wordrun import WordMachine
from markrun.words import written


def assembled(text):
    return written(read(text))


def assembled_short(text):
    return written(short(read(text)))


def text_of_words(words):
    return shown(read_words(words))


def left_by(text, registers=None, memory=None, most=1000):
    machine = WordMachine(assembled(text), registers, memory)
    machine.run(most)
    return (machine.stands(), machine.steps(), machine.registers(), machine.marks(), machine.memory())
