import unittest

from markrun.errors import NoLabel
from markrun.items import is_item, is_program, place_of, rows_of
from programs import MARKS, OF_MEMORY, OF_NUMBERS, OF_TWO_REGISTERS, program, rows_at_the_ends, some_program
from telling import TellingCase, in_short

NAMES = (
    "a", "z", "ab", "loop", "abcdefg", "abcdefgh", "zzzzzzzz", "aaaaaaaa",
    "stop", "jump", "when", "label", "set", "carry", "nought", "sign", "r", "copy",
)
NO_NAMES = (
    "", "abcdefghi", "aaaaaaaaa", "a" * 400, "A", "Z", "Loop", "lOop", "looP", "loop1", "1loop", "lo2op", "r1", "0",
    "a_b", "_", "a b", " a", "a ", " ", "a:", ":", ":a", "a-b", "a.", "a;", "a\t", "\ta", "a\n", "\n", "a\nb",
    "`", "{", "@", "[", "a`", "a{", None, True, False, 0, 1, -1, ["a"], ("a",), [], (),
)
NO_MARKS = (
    "", "Carry", "carry ", " sign", "CARRY", "car", "carr", "carrys", "zero", "none", "a", "r0", "noughtsign",
    None, True, False, 0, 1, 2, ["carry"], ("carry",), [], (), MARKS,
)
# In a number's place, whatever its bounds.
NO_NUMBERS = (
    -1, -2, 10 ** 20, 10 ** 5000, -10 ** 5000, True, False, "0", "1", "r1", "", None, [], (), [0], (0,), [1, 2], (1,),
)
NO_KINDS = (
    "", "Set", "SET", "set ", " set", "sett", "mul", "nop", "end", "far", "stop:", "a", "r0",
    None, True, False, 0, 1, 18, [], (), ["set"], ("set",), [[]],
)


class Items(TellingCase):
    def assert_item(self, thing):
        with self.subTest(thing=thing):
            self.assertIs(self.tell(is_item, thing), True)

    def assert_none(self, thing):
        with self.subTest(thing=in_short(thing)):
            self.assertIs(self.tell(is_item, thing), False)

    def test_rows_of_each_kind(self):
        for row in rows_at_the_ends():
            self.assert_item(row)

    def test_labels_and_jumps(self):
        for name in NAMES:
            self.assert_item(("label", name))
            self.assert_item(("jump", name))
            for mark in MARKS:
                self.assert_item(("when", mark, name))
                self.assert_item(("unless", mark, name))

    def test_no_names(self):
        for name in NO_NAMES:
            for ahead in (("label",), ("jump",), ("when", "carry"), ("unless", "sign")):
                self.assert_none(ahead + (name,))

    def test_a_wrong_sign_at_any_place_of_a_name(self):
        for sign in "A0:_ \t`{":
            for place in range(8):
                self.assert_none(("label", "abcdefgh"[:place] + sign + "abcdefgh"[place + 1:]))

    def test_no_marks(self):
        for mark in NO_MARKS:
            self.assert_none(("when", mark, "a"))
            self.assert_none(("unless", mark, "a"))

    def test_no_numbers_of_registers(self):
        for number in (8, 9, 31, 255, 65535) + NO_NUMBERS:
            for kind in OF_TWO_REGISTERS:
                self.assert_none((kind, number, 0))
                self.assert_none((kind, 0, number))
            for kind in OF_NUMBERS:
                self.assert_none((kind, number, 0))
            for kind in OF_MEMORY:
                self.assert_none((kind, number, 0, 0))
                self.assert_none((kind, 0, number, 0))

    def test_no_numbers_beside_registers(self):
        for number in NO_NUMBERS:
            for kind in OF_NUMBERS:
                self.assert_none((kind, 0, number))
            for kind in OF_MEMORY:
                self.assert_none((kind, 0, 0, number))

    def test_numbers_just_beyond_their_bounds(self):
        for kind in ("set", "high"):
            self.assert_item((kind, 7, 65535))
            self.assert_none((kind, 7, 65536))
        for kind in ("left", "right"):
            self.assert_item((kind, 7, 31))
            self.assert_none((kind, 7, 32))
        for kind in OF_MEMORY:
            self.assert_item((kind, 7, 7, 255))
            self.assert_none((kind, 7, 7, 256))

    def test_no_kinds(self):
        for kind in NO_KINDS:
            for behind in ((), (0,), (0, 0), (0, 0, 0), ("a",), ("carry", "a")):
                self.assert_none((kind,) + behind)

    def test_a_part_more_or_fewer(self):
        whole = [("label", "a"), ("jump", "a"), ("when", "carry", "a"), ("unless", "sign", "a"), ("stop",)]
        whole.extend((kind, 1, 1) for kind in OF_TWO_REGISTERS + tuple(OF_NUMBERS))
        whole.extend((kind, 1, 1, 1) for kind in OF_MEMORY)
        for item in whole:
            self.assert_item(item)
            self.assert_none(item[:-1])
            for more in (0, 1, "a", "", None, True, ()):
                self.assert_none(item + (more,))

    def test_no_tuples(self):
        for item in (("label", "a"), ("set", 0, 0), ("copy", 1, 2), ("load", 0, 1, 2), ("jump", "a"), ("stop",)):
            self.assert_none(list(item))
            self.assert_none([item])
            self.assert_none((item,))
        for thing in ((), [], "", "stop", "label", "jump a", 0, 1, -1, 10 ** 5000, None, True, False):
            self.assert_none(thing)

    def test_things_within_things(self):
        deep = []
        for turn in range(50):
            deep = [deep, (deep,)] if turn < 5 else [deep]
        for thing in (deep, (deep,), ("set", deep, 0), ("when", deep, "a"), ("jump", deep), (deep, 0, 0)):
            self.assertIs(is_item(thing), False)
            self.assertIs(is_program([thing]), False)


class Programs(TellingCase):
    def test_programs(self):
        for items in (
            [], [("stop",)], [("label", "a")], [("label", "a"), ("label", "b")],
            [("set", 0, 1), ("add", 0, 0)],
            [("label", "a"), ("jump", "a")], [("jump", "a"), ("label", "a")],
            [("label", "a"), ("label", "b"), ("jump", "a"), ("when", "sign", "b"), ("label", "c"), ("label", "d")],
            [("jump", "jump"), ("label", "jump"), ("unless", "carry", "carry"), ("label", "carry"), ("stop",)],
            [("jump", "a"), ("jump", "a"), ("label", "a"), ("jump", "a")],
            rows_at_the_ends(),
        ):
            with self.subTest(items=items[:6]):
                self.assertIs(self.tell(is_program, items), True)

    def test_programs_by_chance(self):
        for seed in range(50):
            self.assertIs(self.tell(is_program, some_program(seed, rows=seed)), True)

    def test_great_programs(self):
        self.assertIs(is_program([("stop",)] * 400), True)
        self.assertIs(is_program([("stop",)] * 401), True)
        self.assertIs(is_program([("label", "a")] + [("jump", "a")] * 399), True)

    def test_a_name_of_two_labels(self):
        for items in (
            [("label", "a"), ("label", "a")],
            [("label", "a"), ("stop",), ("label", "a")],
            [("label", "b"), ("label", "a"), ("jump", "a"), ("label", "c"), ("stop",), ("label", "b")],
        ):
            self.assertIs(self.tell(is_program, items), False)

    def test_a_jump_to_no_label(self):
        for items in (
            [("jump", "a")],
            [("when", "carry", "a"), ("label", "b")],
            [("unless", "carry", "carry"), ("label", "a")],
            [("label", "ab"), ("label", "b"), ("jump", "a")],
            [("label", "a"), ("jump", "a"), ("jump", "ab")],
            [("label", "a"), ("when", "sign", "sign"), ("jump", "a")],
        ):
            self.assertIs(self.tell(is_program, items), False)

    def test_something_that_is_no_item_at_any_place(self):
        items = program("a:, set r0 1, jump a, stop")
        for thing in (None, True, 0, "", "stop", [], ["stop"], (), ("set", 0, 65536), ("label", "A"), [("stop",)]):
            for place in range(len(items) + 1):
                self.assertIs(self.tell(is_program, items[:place] + [thing] + items[place:]), False)

    def test_no_lists(self):
        for thing in (
            (), (("stop",),), ("stop",), ("label", "a"), (("label", "a"), ("jump", "a")), "", "stop", "stop\n",
            None, True, False, 0, 1,
        ):
            self.assertIs(self.tell(is_program, thing), False)


class Rows(TellingCase):
    def test_labels_are_left_out(self):
        self.assert_told(self.tell(rows_of, []), [])
        self.assert_told(self.tell(rows_of, [("label", "a")]), [])
        self.assert_told(
            self.tell(rows_of, program("a:, set r0 1, b:, c:, jump a, stop:, stop, d:")),
            [("set", 0, 1), ("jump", "a"), ("stop",)],
        )

    def test_the_list_is_the_askers_own(self):
        items = [("stop",), ("set", 0, 1)]
        rows = rows_of(items)
        rows.append(("stop",))
        self.assert_told(items, [("stop",), ("set", 0, 1)])
        self.assert_told(rows_of(items), [("stop",), ("set", 0, 1)])

    def test_places_of_labels(self):
        items = program("a:, set r0 1, b:, c:, jump a, stop:, stop, d:, e:")
        wanted = {"a": 0, "b": 1, "c": 1, "stop": 2, "d": 3, "e": 3}
        for name, place in wanted.items():
            self.assert_told(self.tell(place_of, items, name), place)

    def test_places_without_rows(self):
        items = [("label", "a"), ("label", "b")]
        self.assert_told(self.tell(place_of, items, "a"), 0)
        self.assert_told(self.tell(place_of, items, "b"), 0)

    def test_places_by_chance(self):
        for seed in range(30):
            items = some_program(seed, labels=8)
            for number, item in enumerate(items):
                if item[0] == "label":
                    place = len([ahead for ahead in items[:number] if ahead[0] != "label"])
                    self.assert_told(place_of(items, item[1]), place)

    def test_no_label(self):
        items = program("loop:, set r0 1, jump loop, ab:, stop")
        for name in (
            "", "a", "b", "lo", "oop", "loo", "loopa", "aloop", "abc", "Loop", "loop:", " loop", "loop ", "set", "stop",
            "jump", "label", "0", "r0", "no such label at all", "a\nb", "%", "\u00e9", "{name}",
        ):
            with self.subTest(name=name):
                self.refuse(NoLabel, place_of, items, name)
                self.refuse(NoLabel, place_of, [], name)


if __name__ == "__main__":
    unittest.main()
