import random
import unittest

from markrun.errors import BadText, BadWords
from markrun.listing import listing, read_listing
from markrun.words import written
from programs import program, rows_at_the_ends, some_program
from telling import TellingCase
from wording import written_far

FAR_JUMP = 0xA8000000



class Listing(TellingCase):
    def assert_listed(self, words, text):
        with self.subTest(words=words):
            self.assert_told(self.tell(listing, words), text)
            self.assert_told(self.tell(read_listing, text), words)

    def test_nothing(self):
        self.assert_listed([], "")

    def test_rows(self):
        self.assert_listed([0], "    0  00000000  stop\n")
        self.assert_listed(
            [0x08000003, 0x7140001E, 0x6E00001F, 0x57E00000],
            "    0  08000003  set r0 3\n    1  7140001e  load r1 r2 30\n    2  6e00001f  right r6 31\n"
            "    3  57e00000  xor r7 r7\n",
        )

    def test_near_jumps_tell_the_address_to_which_they_lead(self):
        self.assert_listed([0x90000000], "    0  90000000  jump 0\n")
        self.assert_listed(
            [0x90000003, 0x9A00001F, 0xA1000001],
            "    0  90000003  jump 3\n    1  9a00001f  when sign 0\n    2  a1000001  unless nought 3\n",
        )

    def test_far_jumps_and_their_second_words(self):
        self.assert_listed([FAR_JUMP, 2], "    0  a8000000  jump 2\n    1  00000002\n")
        self.assert_listed(
            [0, 0xB0000000, 0xFFFFFFFF, 0xBA000000, 0],
            "    0  00000000  stop\n    1  b0000000  when carry 0\n    2  ffffffff\n"
            "    3  ba000000  unless sign 3\n    4  00000000\n",
        )

    def test_a_second_word_that_looks_like_a_row(self):
        self.assert_listed([FAR_JUMP, 0], "    0  a8000000  jump 0\n    1  00000000\n")

    def test_addresses_of_one_to_three_figures(self):
        items = program("jump a") + [("stop",)] * 130 + program("a:, set r0 1, b:, jump b")
        rows = listing(written(items)).split("\n")
        self.assertEqual(len(rows), 135)
        self.assertEqual(rows[134], "")
        self.assertEqual(rows[0], "    0  a8000000  jump 132")
        self.assertEqual(rows[1], "    1  00000084")
        self.assertEqual(rows[9], "    9  00000000  stop")
        self.assertEqual(rows[10], "   10  00000000  stop")
        self.assertEqual(rows[99], "   99  00000000  stop")
        self.assertEqual(rows[100], "  100  00000000  stop")
        self.assertEqual(rows[132], "  132  08000001  set r0 1")
        self.assertEqual(rows[133], "  133  90000000  jump 133")
        self.assert_told(read_listing(listing(written(items))), written(items))

    def test_read_back(self):
        programs = [rows_at_the_ends()]
        programs.extend(some_program(seed, rows=2 * seed, jumps=4, labels=6) for seed in range(40))
        for items in programs:
            for words in (written(items), written_far(items)):
                text = self.tell(listing, words)
                self.assert_told(self.tell(read_listing, text), words)
                self.assertEqual(text.count("\n"), len(words))
                self.assertNotIn(" \n", text)

    def test_words_that_cant_be_read(self):
        for words in ([1], [FAR_JUMP], [0x9000001F], [0, 0xFFFFFFFF], [FAR_JUMP, 1]):
            self.refuse(BadWords, listing, words)


class ReadListing(TellingCase):
    def assert_read(self, text, words):
        with self.subTest(text=text):
            self.assert_told(self.tell(read_listing, text), words)

    def assert_bad(self, text):
        with self.subTest(text=text[:60]):
            self.refuse(BadText, read_listing, text)

    def test_nothing(self):
        for text in ("", "\n", "\n\n", " ", "     \n  \n", "\n \n"):
            self.assert_read(text, [])

    def test_with_and_without_a_last_line_feed(self):
        self.assert_read("0 00000001", [1])
        self.assert_read("0 00000001\n", [1])
        self.assert_read("0 00000001\n1 ffffffff", [1, 4294967295])

    def test_blanks(self):
        self.assert_read("0 0000000a", [10])
        self.assert_read("    0  0000000a  ", [10])
        self.assert_read("0        0000000a", [10])
        self.assert_read("          0 0000000a  stop", [10])

    def test_rows_that_are_passed_over_are_not_counted(self):
        self.assert_read("\n0 00000000\n\n   \n1 00000001\n\n2 00000002\n \n", [0, 1, 2])
        self.assert_bad("\n1 00000000\n")
        self.assert_bad("0 00000000\n\n2 00000001\n")

    def test_what_stands_behind_isnt_looked_at(self):
        for behind in (" stop", " x y z", " ;", " 12345678", "  jump nowhere", " \t", "  \tstop", " -1 %", " :"):
            self.assert_read("0 0000000a" + behind, [10])
            self.assert_read("0 0000000a" + behind + "\n1 0000000b" + behind + "\n", [10, 11])

    def test_words_need_not_tell_rows(self):
        self.assert_read("0 ffffffff\n1 00000001\n2 9000001f", [4294967295, 1, 0x9000001F])

    def test_many_rows(self):
        words = [random.Random(number).randrange(4294967296) for number in range(1200)]
        text = "".join("%d %08x\n" % pair for pair in enumerate(words))
        self.assert_told(read_listing(text), words)

    def test_wrong_numbers(self):
        for number in (
            "1", "2", "10", "00", "000", "-0", "+0", "-1", "0.", "0:", "o", "a", "0x0", "0_0", ";", "0,", "O", "1" * 5000,
            "0" * 5000, "00000000",
        ):
            self.assert_bad(number + " 00000000")
        for number in ("0", "2", "3", "01", "001", "+1", "-1", "1.", "11", "1_", "l", "x1"):
            self.assert_bad("0 00000000\n" + number + " 00000000\n")
        self.assert_bad("0 00000000\n0 00000000")
        self.assert_bad("1 00000000\n0 00000000")

    def test_tabs(self):
        for text in (
            "\t", " \t ", "0\t00000000", "\t0 00000000", "0 \t00000000", "0 00000000\t", "0 00000000\tstop",
            "0\t 00000000", "0 00000000\n\t\n1 00000000", "0 00000000\n\t1 00000000",
        ):
            self.assert_bad(text)

    def test_words_that_arent_eight_such_signs(self):
        for word in (
            "0", "0000000", "000000000", "0000000A", "DEADBEEF", "0000000g", "0x000000", "0x00000000", "-0000000",
            "+0000000", "0000_000", "stop", "0000000;", "1" * 5000,
        ):
            self.assert_bad("0 " + word)
            self.assert_bad("0 " + word + " 00000000")
            self.assert_bad("0 00000000\n1 " + word + "\n2 00000000")

    def test_one_word_alone(self):
        for text in ("0", "0\n", "  0  ", "00000000", "0 00000000\n1", "0 00000000\n1\n00000000", "x"):
            self.assert_bad(text)

    def test_remarks_are_none_here(self):
        self.assert_bad("; 0 00000000")
        self.assert_bad("0 00000000\n; more")
        self.assert_bad("0;00000000")


if __name__ == "__main__":
    unittest.main()
