import importlib
import inspect
import unittest

FUNCTIONS = {
    "bits": (
        "added(one, other, carry)", "taken(one, other, borrow)", "moved_left(word, count)",
        "moved_right(word, count)", "part(word, low, width)", "with_part(word, low, width, number)",
        "signed(number, width)", "unsigned(number, width)", "bytes_of(word)", "word_of(four)",
    ),
    "hexes": ("hex_text(word)", "read_hex(text)"),
    "items": ("is_item(thing)", "is_program(thing)", "rows_of(items)", "place_of(items, name)"),
    "texts": ("shown(items)", "read(text)", "fault(text)"),
    "plainly": ("name_of(number)", "plain(items)"),
    "places": ("addresses(items, far)",),
    "reach": ("reaches(items, far)", "far_rows(items)"),
    "words": ("word_of_row(row)", "written(items)"),
    "unwords": ("row_at(words, address)", "read_words(words)", "word_fault(words)"),
    "flow": ("used(row)", "put(row)", "next_rows(items, number)", "reached(items)"),
    "needs": ("needs(items)",),
    "leading": ("led_on(items)",),
    "dropping": ("idle(items)", "without(items, numbers)"),
    "shorter": ("short(items)",),
    "listing": ("listing(words)", "read_listing(text)"),
    "desk": (
        "assembled(text)", "assembled_short(text)", "text_of_words(words)",
        "left_by(text, registers=None, memory=None, most=1000)",
    ),
}


METHODS = (
    "step(self)", "run(self, most=1000)", "registers(self)", "marks(self)", "memory(self)", "byte(self, address)",
    "place(self)", "stands(self)", "steps(self)", "again(self)",
)
MACHINES = {
    "rowrun": "RowMachine(items, registers=None, memory=None)",
    "wordrun": "WordMachine(words, registers=None, memory=None)",
}


class Interface(unittest.TestCase):
    def test_functions_are_there_with_their_arguments(self):
        for file, wanted in FUNCTIONS.items():
            module = importlib.import_module("markrun." + file)
            for call in wanted:
                with self.subTest(file=file, call=call):
                    function = getattr(module, call.partition("(")[0])
                    self.assertEqual(function.__name__ + str(inspect.signature(function)), call)

    def test_machines_are_there_with_their_methods(self):
        base = importlib.import_module("markrun.machine").Machine
        for file, call in MACHINES.items():
            machine = getattr(importlib.import_module("markrun." + file), call.partition("(")[0])
            self.assertEqual(machine.__name__ + str(inspect.signature(machine)), call)
            self.assertEqual(machine.__bases__, (base,))
            for method in METHODS:
                with self.subTest(file=file, method=method):
                    function = getattr(machine, method.partition("(")[0])
                    self.assertEqual(function.__name__ + str(inspect.signature(function)), method)


if __name__ == "__main__":
    unittest.main()
