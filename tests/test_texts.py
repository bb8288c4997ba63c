import random
import unittest

from markrun.errors import BadText
from markrun.texts import fault, read, shown
from programs import OF_MEMORY, OF_TWO_REGISTERS, rows_at_the_ends, some_program
from telling import TellingCase

WRITTEN = (
    ("label", "loop"), "loop:", ("label", "stop"), "stop:", ("label", "a"), "a:", ("label", "abcdefgh"), "abcdefgh:",
    ("set", 0, 0), "set r0 0", ("set", 7, 65535), "set r7 65535", ("high", 1, 10), "high r1 10",
    ("copy", 2, 3), "copy r2 r3", ("add", 4, 5), "add r4 r5", ("addc", 6, 7), "addc r6 r7",
    ("sub", 0, 7), "sub r0 r7", ("subc", 7, 0), "subc r7 r0", ("and", 1, 1), "and r1 r1", ("or", 2, 2), "or r2 r2",
    ("xor", 3, 3), "xor r3 r3", ("test", 4, 4), "test r4 r4", ("left", 5, 0), "left r5 0", ("left", 5, 31), "left r5 31",
    ("right", 6, 1), "right r6 1", ("load", 1, 2, 30), "load r1 r2 30", ("store", 0, 7, 255), "store r0 r7 255",
    ("loadw", 7, 0, 0), "loadw r7 r0 0", ("storew", 3, 4, 100), "storew r3 r4 100",
    ("jump", "a"), "jump a", ("jump", "stop"), "jump stop", ("when", "carry", "loop"), "when carry loop",
    ("when", "sign", "abcdefgh"), "when sign abcdefgh", ("unless", "nought", "loop"), "unless nought loop",
    ("stop",), "stop",
)
PAIRS = list(zip(WRITTEN[0::2], WRITTEN[1::2]))
LABELS = "loop:\nstop:\na:\nabcdefgh:\n"

# Rows that are none of 2.3's.
WRONG = [
    # an unknown word
    "halt", "nop", "SET r0 1", "Set r0 1", "Stop", "STOP", "stops", "sto", "mul r0 r1", "label", "label a", "label a b",
    "r0", "0", "carry", "a", "-", ",", ".", "stop,", "d", "name",
    # labels that are none
    ":", "::", "a::", ":a", "a :", "a: :", "A:", "Loop:", "a1:", "1:", "a_b:", "abcdefghi:", "a-:", "a b:", "stop :",
    "a:stop", "a: stop", "a: b:", "stop a:", "r1:",
    # a word more or fewer
    "set", "set r0", "set r0 1 2", "set r0 1 r2", "high", "high r0", "high r0 1 1", "copy", "copy r0", "copy r0 r1 r2",
    "test r0", "test r0 r1 r1", "left r0", "left r0 1 1", "right r0", "load r0 r1", "load r0 r1 1 1", "load r0 1",
    "store r0 r1", "storew r0 r1", "loadw r0 r1", "jump", "jump a a", "when carry", "when carry a a", "when a",
    "unless sign", "unless", "when", "stop stop", "stop 0", "stop a",
    # numbers
    "set r0 00", "set r0 01", "set r0 065535", "set r0 +1", "set r0 -1", "set r0 -0", "set r0 +0", "set r0 65536",
    "set r0 99999", "set r0 100000", "set r0 1_000", "set r0 1.0", "set r0 1e3", "set r0 0x1", "set r0 a", "set r0 r1",
    "set r0 ,", "set r0 1,", "set r0 1a", "set r0 a1", "high r0 65536", "high r0 00000",
    "left r0 32", "left r0 031", "left r0 -1", "right r0 32", "right r0 64", "load r0 r1 256", "load r0 r1 00",
    "store r0 r1 256", "loadw r0 r1 256", "storew r0 r1 256", "storew r0 r1 -1", "load r0 r1 r2",
    "set r0 " + "1" * 5000, "set r0 " + "9" * 9000, "set r0 " + "0" * 5000, "set r0 " + "0" * 5000 + "1",
    "set r0 -" + "1" * 5000, "left r0 " + "3" * 4301, "load r0 r0 " + "2" * 4300, "set r" + "1" * 5000 + " 1",
    # registers
    "set r8 1", "set r9 1", "set r10 1", "set R1 1", "set r 1", "set 1 1", "set r01 1", "set r00 1", "set r-1 1",
    "set r+1 1", "set rr1 1", "set r1r 1", "set r1: 1", "set x1 1", "set r0, 1", "copy r0 r8", "copy r8 r0",
    "copy R1 r1", "copy r1 R1", "copy r0 0", "copy r0 r", "add r0 1", "load r0 r8 0", "load r8 r0 0", "load r0 0 0",
    "store r0 R0 0",
    # marks and names
    "when zero a", "when Carry a", "when carry: a", "when a carry", "unless signs a", "unless r0 a",
    "jump A", "jump a:", "jump r1", "jump 0", "jump abcdefghi", "jump a1", "jump Loop", "when carry A",
    "when carry abcdefghi", "unless sign a1", "jump :", "jump a_b", "jump -",
]


class Shown(TellingCase):
    def test_each_kind(self):
        for item, row in PAIRS:
            with self.subTest(row=row):
                self.assert_told(self.tell(shown, [item] + read(LABELS)), row + "\n" + LABELS)

    def test_programs(self):
        self.assert_told(self.tell(shown, []), "")
        self.assert_told(self.tell(shown, [("stop",)]), "stop\n")
        self.assert_told(self.tell(shown, [("label", "a"), ("label", "b"), ("jump", "a")]), "a:\nb:\njump a\n")

    def test_read_back(self):
        for items in [[], rows_at_the_ends()] + [some_program(seed, rows=seed, labels=6) for seed in range(60)]:
            self.assert_told(self.tell(read, shown(items)), items)
            self.assertIsNone(fault(shown(items)))

    def test_read_and_written_again(self):
        for seed in range(20):
            text = shown(some_program(seed))
            self.assert_told(shown(read(text)), text)


class Read(TellingCase):
    def assert_read(self, text, items):
        with self.subTest(text=text):
            self.assert_told(self.tell(read, text), items)
            self.assertIsNone(self.tell(fault, text))

    def test_each_kind(self):
        for item, row in PAIRS:
            if item[0] != "label":
                self.assert_read(LABELS + row, read(LABELS) + [item])
            else:
                self.assert_read(row, [item])

    def test_nothing(self):
        for text in (
            "", "\n", "\n\n\n", " ", "\t", " \t \n\t \t", ";", ";;", "; stop", "  ; a: b\n;\n\t;x", ";-",
        ):
            self.assert_read(text, [])

    def test_a_last_row_with_and_without_a_line_feed(self):
        for text in ("set r0 1\nstop", "set r0 1\nstop\n", "set r0 1\nstop\n\n", "\nset r0 1\n\nstop\n \n"):
            self.assert_read(text, [("set", 0, 1), ("stop",)])

    def test_blanks_and_tabs(self):
        for text in (
            "load r1 r2 30", " load r1 r2 30", "load r1 r2 30 ", "\tload r1 r2 30\t", "load\tr1\tr2\t30",
            "load  r1   r2    30", "load \t r1\t r2 \t30", " \t load\t\tr1 r2 30 \t ", "  load r1 r2 30\t\t",
        ):
            self.assert_read(text, [("load", 1, 2, 30)])
        for text in ("a:", " a:", "\ta:", "a: ", "a:\t", " \ta:\t "):
            self.assert_read(text, [("label", "a")])

    def test_what_stands_behind_a_semicolon(self):
        for text in (
            "set r0 1;", "set r0 1 ;", "set r0 1;2", "set r0 1 ; more ; and more", "set r0 1\t;set r0 2",
            "set r0 1;;", "set r0 1 ; stop\n;stop", "set r0 1 ; loop:", "; set r0 2\nset r0 1",
        ):
            self.assert_read(text, [("set", 0, 1)])
        self.assert_read("a: ; a label\nstop;", [("label", "a"), ("stop",)])
        self.assert_read("a:;a:\njump a;b", [("label", "a"), ("jump", "a")])

    def test_a_semicolon_ends_its_own_row_alone(self):
        self.assert_read("; one\nstop\n; two\nset r1 2 ; three\nstop", [("stop",), ("set", 1, 2), ("stop",)])

    def test_words_of_rows_as_names(self):
        self.assert_read(
            "stop:\njump:\nlabel:\njump stop\njump jump\nwhen carry label\ncarry:\nunless carry carry\nstop",
            [
                ("label", "stop"), ("label", "jump"), ("label", "label"), ("jump", "stop"), ("jump", "jump"),
                ("when", "carry", "label"), ("label", "carry"), ("unless", "carry", "carry"), ("stop",),
            ],
        )

    def test_labels_ahead_and_behind(self):
        self.assert_read(
            "jump b\na:\njump a\nb:", [("jump", "b"), ("label", "a"), ("jump", "a"), ("label", "b")]
        )

    def test_the_list_is_the_askers_own(self):
        text = "a:\njump a\nstop\n"
        first = read(text)
        first.clear()
        second = read(text)
        second.append(("set", 0, 0))
        self.assert_told(read(text), [("label", "a"), ("jump", "a"), ("stop",)])

    def test_texts_with_much_passed_over(self):
        chance = random.Random(7)
        for seed in range(30):
            items = some_program(seed, rows=12)
            rows = []
            for row in shown(items).split("\n"):
                while chance.randrange(4) == 0:
                    rows.append(chance.choice(("", " ", "\t\t", ";", " ; passed over", "\t;;a:")))
                gap = chance.choice((" ", "  ", "\t", " \t "))
                behind = chance.choice(("", " ", "\t", ";", " ; jump a", ";stop"))
                rows.append(chance.choice(("", " ", "\t")) + row.replace(" ", gap) + behind)
            self.assert_told(read("\n".join(rows)), items)

    def test_a_text_of_most_signs(self):
        self.assert_told(read("stop\n" * 2400), [("stop",)] * 2400)
        self.assert_told(read(" " * 11990 + "stop"), [("stop",)])
        self.assert_told(read("stop;" + "-" * 11990), [("stop",)])


class Faults(TellingCase):
    def assert_fault(self, text, number):
        with self.subTest(text=text[:60]):
            self.assert_told(self.tell(fault, text), number)
            self.refuse(BadText, read, text)

    def test_wrong_rows(self):
        for row in WRONG:
            self.assert_fault(row, 0)
            self.assert_fault(row + "\n", 0)
            self.assert_fault("a:\n\n; more\nstop\n" + row + "\nb:\n", 4)
            self.assert_fault("\n \tloop: ; loop\n\t" + row + " ; " + row, 2)

    def test_what_a_semicolon_cuts_off_may_lack(self):
        self.assert_fault("set r0 ;1", 0)
        self.assert_fault("stop\na;:", 1)
        self.assert_fault("jump ;a\na:", 0)
        self.assert_fault("se;t r0 1", 0)

    def test_a_line_feed_parts_words_of_a_row(self):
        self.assert_fault("set r0\n1", 0)
        self.assert_fault("a:\njump\na", 1)

    def test_names_of_eight_and_nine_letters(self):
        self.assertIsNone(fault("abcdefgh:\njump abcdefgh\n"))
        self.assert_fault("abcdefghi:\njump abcdefghi\n", 0)

    def test_a_label_told_twice(self):
        self.assert_fault("a:\na:\n", 1)
        self.assert_fault("a:\n\njump a\n;\n a: ; again\na:\n", 4)
        self.assert_fault("a:\nb:\nc:\nb:\na:", 3)
        self.assert_fault("stop:\nstop\nstop:", 2)

    def test_a_jump_to_no_label(self):
        self.assert_fault("jump a", 0)
        self.assert_fault("a:\nwhen carry b\n", 1)
        self.assert_fault("a:\njump a\n\nunless sign sign\njump c", 3)
        self.assert_fault("ab:\njump a\n", 1)
        self.assert_fault("a: ; b:\njump b", 1)

    def test_the_least_of_several(self):
        self.assert_fault("a:\njump b\na:\nhalt", 1)
        self.assert_fault("a:\na:\njump b\nhalt", 1)
        self.assert_fault("a:\nhalt\njump b\na:", 1)
        self.assert_fault("\n\njump x\nhalt\nhalt", 2)
        self.assert_fault("halt\njump x\na:\na:", 0)
        self.assert_fault("jump a\nb:\nb:\na:", 2)

    def test_a_label_in_a_wrong_row_is_none(self):
        self.assert_fault("jump a\na: stop", 0)
        self.assert_fault("stop\na: stop\na:\n", 1)

    def test_a_label_told_twice_is_there_for_jumps(self):
        self.assert_fault("jump a\nstop\na:\na:", 3)

    def test_passed_over_rows_are_counted(self):
        self.assert_fault("\n\n\nhalt", 3)
        self.assert_fault("; one\n\t\n  ; two\nstop\n\nhalt\n", 5)

    def test_none_where_there_is_no_fault(self):
        for text in ("", "\n", ";halt", "stop", "a:\njump a", "jump a\na:\n"):
            self.assertIsNone(self.tell(fault, text))

    def test_one_wrong_row_among_many(self):
        rows = ["stop"] * 2000
        for number in (0, 1, 999, 1999):
            wrong = rows[:number] + ["stop 1"] + rows[number + 1:]
            self.assert_told(fault("\n".join(wrong)), number)

    def test_numbers_at_both_sides_of_their_bounds(self):
        for row, greatest in [("set r0 ", 65535), ("high r7 ", 65535), ("left r0 ", 31), ("right r0 ", 31)] + [
            (kind + " r0 r7 ", 255) for kind in OF_MEMORY
        ]:
            for number in (0, 1, 9, 10, greatest - 1, greatest):
                self.assertIsNone(fault(row + str(number)))
            self.assert_fault(row + str(greatest + 1), 0)
            self.assert_fault(row + "0" + str(greatest), 0)

    def test_registers_at_both_sides_of_their_bounds(self):
        for kind in OF_TWO_REGISTERS:
            for number in range(8):
                self.assertIsNone(fault(f"{kind} r{number} r{7 - number}"))
            self.assert_fault(kind + " r8 r0", 0)
            self.assert_fault(kind + " r0 r8", 0)


if __name__ == "__main__":
    unittest.main()
