"""Pairs as texts [37]."""

import unittest

from linksums.errors import InvalidText
from linksums.text import format_pair, parse_pair
from tests import samples
from tests.wrong_things import NO_NUMBERS, NoWholeThing, Raising

# What is written in no way that [37] allows, as a link or instead of one.
WRONG_WORDS = ["", "00", "01", "+0", "-0", "+1", "-1", "a", "1a", "0x0", "1.0", "1_0", ".", ",", "0,", "-", "()", "~",
               "None", "True", "'0'", "[0]"]


class Texts(unittest.TestCase):
    def test_known_texts(self):
        self.assertEqual(format_pair(([0, 1], [3, 3])), "0 1\n3 3")
        self.assertEqual(parse_pair("0 0\n2 3"), ([0, 0], [2, 3]))
        self.assertEqual(format_pair(([0], [2])), "0\n2")
        self.assertEqual(format_pair(samples.plain(16)), "0 1 2 3 4 5 6 7 8 9 10 11 12 13 14 15\n"
                                                         "17 17 17 17 17 17 17 17 17 17 17 17 17 17 17 17")

    def test_they_are_each_others_inverse(self):
        for pair in samples.some_pairs() + samples.drawn_pairs():
            text = format_pair(pair)
            with self.subTest(pair=pair):
                self.assertIs(type(text), str)
                self.assertEqual(text, "\n".join([" ".join(map(str, pair[0])), " ".join(map(str, pair[1]))]))
                self.assertEqual(parse_pair(text), pair)
                self.assertEqual(format_pair(parse_pair(text)), text)

    def test_what_is_read_is_a_tuple_of_two_new_lists_of_numbers(self):
        found = parse_pair("0 0\n2 3")
        self.assertIs(type(found), tuple)
        self.assertEqual([type(table) for table in found], [list, list])
        self.assertEqual({type(link) for table in found for link in table}, {int})
        for table in found:
            table.append(7)
        self.assertEqual(parse_pair("0 0\n2 3"), ([0, 0], [2, 3]))

    def test_each_text_is_another_one(self):
        for places in (1, 2, 3):
            texts = {format_pair(pair) for pair in samples.all_pairs(places)}
            self.assertEqual(len(texts), len(samples.all_pairs(places)))

    def test_by_name(self):
        self.assertEqual(format_pair(pair=([0], [2])), "0\n2")
        self.assertEqual(parse_pair(text="0\n2"), ([0], [2]))


class WrongTexts(Raising):
    def check_text_error(self, line, text):
        error = self.raised(InvalidText, parse_pair, text)
        with self.subTest(text=text):
            self.assertEqual(error.line, line)
            self.assertIsNot(type(error.line), bool)

    def test_no_texts(self):
        for thing in NO_NUMBERS + [NoWholeThing(), 0, b"0\n2", ["0", "2"], ("0\n2",), ([0], [2]), parse_pair]:
            if not isinstance(thing, str):
                self.check_text_error(None, thing)

    def test_no_two_lines(self):
        for text in ["", " ", "0", "0 0", "0 0 2 3", "0 2\\n", "0\n2\n", "\n0\n2", "0\n\n2", "0\n2\n3", "\n\n", "x",
                     "0\n2\n3\n4", "01\n\n"]:
            self.check_text_error(None, text)

    def test_wrong_words(self):
        for word in WRONG_WORDS:
            for first, second in [("{}", "2"), ("{} 1", "3 3"), ("0 {}", "3 3"), ("0 {} 1", "4 4 4")]:
                self.check_text_error(0, first.format(word) + "\n" + second)
                # The other line is wrong, too, but this one comes first.
                self.check_text_error(0, first.format(word) + "\n" + word)
            for first, second in [("0", "{}"), ("0 1", "{} 3"), ("0 1", "3 {}"), ("0 1 0", "4 {} 4")]:
                self.check_text_error(1, first + "\n" + second.format(word))

    def test_leading_zeros(self):
        self.check_text_error(0, "00\n2")
        self.check_text_error(0, "0 01\n3 3")
        self.check_text_error(1, "0 1\n3 03")
        self.check_text_error(1, "0 1\n003 3")

    def test_blanks(self):
        for first, second, line in [(" 0 1", "3 3", 0), ("0 1 ", "3 3", 0), ("0  1", "3 3", 0), ("0 1", " 3 3", 1),
                                    ("0 1", "3 3 ", 1), ("0 1", "3  3", 1), ("", "", 0), ("", "2", 0), ("0", "", 1),
                                    (" ", "2", 0), ("0", " ", 1), ("0 1 ", "3 3 ", 0), (" ", " ", 0)]:
            self.check_text_error(line, first + "\n" + second)

    def test_more_than_sixteen_links(self):
        zeros, great = " ".join(["0"] * 17), " ".join(["18"] * 17)
        self.check_text_error(0, zeros + "\n" + great)
        self.check_text_error(0, zeros + "\n" + " ".join(["17"] * 16))
        self.check_text_error(1, " ".join(["0"] * 16) + "\n" + great)
        self.check_text_error(0, " ".join(["0"] * 100) + "\n" + " ".join(["17"] * 100))
        self.assertEqual(len(parse_pair(" ".join(["0"] * 16) + "\n" + " ".join(["17"] * 16))[0]), 16)

    def test_not_as_many_as_in_the_first_line(self):
        # Each second line writes an up table, though not one for as many places.
        for text in ["0\n2 3", "0 0\n2", "0 1 2\n3 3", "0 1\n4 4 4", "0 0\n3 3 4"]:
            self.check_text_error(1, text)

    def test_links_that_no_such_place_can_have(self):
        for text, line in [("1\n2", 0), ("0 2\n3 3", 0), ("0 1 3\n4 4 4", 0), ("0 0 0 9\n5 5 5 5", 0), ("2\n2", 0),
                           ("1\n9", 0), ("0\n0", 1), ("0\n1", 1), ("0\n3", 1), ("0 1\n1 3", 1), ("0 1\n3 2", 1),
                           ("0 1\n4 3", 1), ("0 1\n3 4", 1), ("0 17\n3 3", 0), ("0 1\n3 99999999999999999999", 1),
                           ("99999999999999999999\n2", 0), ("1" * 400 + "\n2", 0), ("0\n" + "2" * 400, 1)]:
            self.check_text_error(line, text)

    def test_the_tables_the_wrong_way_round(self):
        self.check_text_error(0, "2 3\n0 0")


if __name__ == "__main__":
    unittest.main()
