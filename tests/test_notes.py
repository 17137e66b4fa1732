"""Deeds and books as texts, and back."""

import itertools
import random
import unittest

from waxcloth.errors import NoDeed
from waxcloth.notes import book_read, book_shown, read, shown

# Each deed with the row that the document asks for, sign by sign.
ROWS = [
    (("hang", "a", 0), "hang a 0"),
    (("hang", "abcdefgh", 40), "hang abcdefgh 40"),
    (("hang", "sail", 41), "hang sail 41"),
    (("hang", "z", 999999), "hang z 999999"),
    (("fold", "sail"), "fold sail"),
    (("fold", "zzzzzzzz"), "fold zzzzzzzz"),
    (("twin", "sail", "flag"), "twin sail flag"),
    (("twin", "sail", "sail"), "twin sail sail"),
    (("wish", "sail", 0, ()), "wish sail 0 -"),
    (("wish", "sail", 0, (0,)), "wish sail 0 0"),
    (("wish", "sail", 39, (9,)), "wish sail 39 9"),
    (("wish", "sail", 3, (0, 0, 1)), "wish sail 3 001"),
    (("wish", "sail", 10, (1, 2, 3, 4, 5, 6, 7, 8, 9, 0, 1, 2)), "wish sail 10 123456789012"),
    (("wish", "sail", 999999, (0,) * 12), "wish sail 999999 000000000000"),
    (("wax", "sail", ()), "wax sail"),
    (("wax", "sail", (0,)), "wax sail 0"),
    (("wax", "sail", (2, 0, 1)), "wax sail 2 0 1"),
    (("wax", "sail", (5, 7, 5)), "wax sail 5 7 5"),
    (("wax", "sail", (999999, 0, 40)), "wax sail 999999 0 40"),
    (("dip", (), 0), "dip 0"),
    (("dip", ("sail",), 11), "dip 11 sail"),
    (("dip", ("sail", "flag", "a"), 12), "dip 12 sail flag a"),
    (("dip", ("sail", "flag", "sail"), 999999), "dip 999999 sail flag sail"),
    (("boil", ()), "boil"),
    (("boil", ("sail",)), "boil sail"),
    (("boil", ("sail", "flag", "a")), "boil sail flag a"),
    (("boil", ("b", "a", "b")), "boil b a b"),
    (("brew", 0), "brew 0"),
    (("brew", 11), "brew 11"),
    (("brew", 999999), "brew 999999"),
    # The words of deeds are good names, too.
    (("hang", "hang", 1), "hang hang 1"),
    (("dip", ("dip", "boil"), 1), "dip 1 dip boil"),
    (("boil", ("boil",)), "boil boil"),
]
NO_NAMES = [
    "", "abcdefghi", "Sail", "saiL", "sail1", "1", "s-l", "-", "s_l", "s.l", "_", "sail\n", "\nsail", "sa\til",
    "s\u00e4l", "\u0430",
]
NO_NUMBERS = [
    "", "00", "01", "007", "-1", "-0", "+1", "1000000", "9999999", "1_0", "1.0", "1e1", "0x1", "a", "-", "1\n", "\n1",
    "1\t", "\u0661", "\u00b2", "\uff11", "1\u0661",
]
NO_SHADES = [
    "", "0" * 13, "1234567890123", "-0", "0-", "--", "-12", "1-2", "+1", "1a", "a", "1_2", "1\n", "1,2", ".",
    "\u0661", "\u00b2", "1\uff11",
]


def kinds(thing):
    """The kinds of a value and of all within it."""
    if type(thing) is tuple:
        return (tuple, [kinds(part) for part in thing])
    return type(thing)


def drawn_name(rng):
    return "".join([rng.choice("abcxyz") for at in range(rng.randrange(1, 9))])


def drawn_deed(rng):
    """A deed that can be written, whether it could be done or not."""
    def number():
        return rng.choice([0, 1, 9, 10, 12, 40, 999, 999999, rng.randrange(1000000)])

    def names():
        return tuple([drawn_name(rng) for at in range(rng.randrange(4))])

    word = rng.choice(["hang", "fold", "twin", "wish", "wax", "dip", "boil", "brew"])
    return {
        "hang": lambda: (word, drawn_name(rng), number()),
        "fold": lambda: (word, drawn_name(rng)),
        "twin": lambda: (word, drawn_name(rng), drawn_name(rng)),
        "wish": lambda: (
            word, drawn_name(rng), number(), tuple([rng.randrange(10) for at in range(rng.randrange(13))])
        ),
        "wax": lambda: (word, drawn_name(rng), tuple([number() for at in range(rng.randrange(5))])),
        "dip": lambda: (word, names(), number()),
        "boil": lambda: (word, names()),
        "brew": lambda: (word, number()),
    }[word]()


class Notes(unittest.TestCase):
    def assert_refused(self, do, text):
        with self.subTest(repr(text)):
            with self.assertRaises(NoDeed) as caught:
                do(text)
            self.assertIs(type(caught.exception), NoDeed)


class Shown(Notes):
    def test_each_word_sign_by_sign(self):
        for deed, row in ROWS:
            with self.subTest(row):
                self.assertEqual(shown(deed), row)
                self.assertIs(type(shown(deed)), str)

    def test_each_word_stands_in_the_rows(self):
        self.assertEqual(len({deed[0] for deed, row in ROWS}), 8)

    def test_all_shades(self):
        for shades in itertools.product(range(10), repeat=2):
            self.assertEqual(shown(("wish", "a", 1, shades)), f"wish a 1 {shades[0]}{shades[1]}")

    def test_somewhat_beyond_is_not_refused(self):
        self.assertEqual(shown(("hang", "a", 1000000)), "hang a 1000000")
        self.assertEqual(shown(("wish", "a", 0, (1,) * 13)), "wish a 0 " + "1" * 13)


class Read(Notes):
    def assert_read(self, row, deed):
        with self.subTest(row):
            told = read(row)
            self.assertEqual(told, deed)
            self.assertEqual(kinds(told), kinds(deed))

    def test_each_row_back_by_kinds(self):
        for deed, row in ROWS:
            self.assert_read(row, deed)

    def test_drawn_deeds(self):
        rng = random.Random(61)
        for many in range(3000):
            deed = drawn_deed(rng)
            self.assert_read(shown(deed), deed)

    def test_the_empty_text_and_unknown_words(self):
        for row in [
            "", " ", "  ", "\n", "burn", "burn sail", "Hang sail 3", "HANG sail 3", "hangs sail 3", "han sail 3",
            "mark sail", "house 3", "bolt 1 0", "sail", "0", "-", "#",
        ]:
            self.assert_refused(read, row)

    def test_a_word_alone(self):
        for word in ["hang", "fold", "twin", "wish", "wax", "dip", "brew"]:
            self.assert_refused(read, word)
        self.assert_read("boil", ("boil", ()))

    def test_a_word_too_many(self):
        for row in [
            "hang sail 3 4", "hang sail 3 flag", "fold sail flag", "fold sail 0", "twin sail flag a",
            "twin sail flag 1", "wish sail 0 12 1", "wish sail 0 1 2", "wish sail 0 - -", "brew 0 0", "brew 0 sail",
        ]:
            self.assert_refused(read, row)

    def test_a_word_too_few(self):
        for row in ["hang sail", "hang 3", "twin sail", "wish sail", "wish sail 0", "wish 0 12", "wish sail 12"]:
            self.assert_refused(read, row)

    def test_words_turned_about(self):
        for row in [
            "hang 3 sail", "wish 0 sail 12", "wish sail - 0", "wax 0 sail", "dip sail 0", "dip sail", "wax 0 1",
            "boil 0", "boil sail 0", "dip 0 1", "brew sail", "fold 0", "wax sail flag", "twin sail 0",
        ]:
            self.assert_refused(read, row)

    def test_blanks(self):
        for deed, row in ROWS:
            for wrong in [" " + row, row + " ", row + "  ", "  " + row]:
                self.assert_refused(read, wrong)
            for at, sign in enumerate(row):
                if sign == " ":
                    self.assert_refused(read, row[:at] + " " + row[at:])
                    self.assert_refused(read, row[:at] + "\t" + row[at + 1:])

    def test_line_feeds(self):
        for deed, row in ROWS:
            for wrong in [row + "\n", "\n" + row, row + "\n\n", row + "\r\n", row + "\n" + row]:
                self.assert_refused(read, wrong)
            for at in range(len(row)):
                self.assert_refused(read, row[:at] + "\n" + row[at:])
                self.assert_refused(read, row[:at] + "\n" + row[at + 1:])

    def test_names(self):
        for name in NO_NAMES:
            for row in [
                f"hang {name} 3", f"fold {name}", f"twin {name} flag", f"twin flag {name}", f"wish {name} 0 12",
                f"wax {name}", f"wax {name} 0", f"dip 0 {name}", f"dip 0 flag {name}", f"dip 0 {name} flag",
                f"boil {name}", f"boil flag {name}", f"boil {name} flag",
            ]:
                self.assert_refused(read, row)

    def test_each_sign_in_a_name(self):
        for code in range(32, 127):
            sign = chr(code)
            if "a" <= sign <= "z":
                self.assert_read(f"fold a{sign}b", ("fold", f"a{sign}b"))
            else:
                self.assert_refused(read, f"fold a{sign}b")

    def test_numbers(self):
        for number in NO_NUMBERS:
            for row in [
                f"hang sail {number}", f"wish sail {number} 12", f"wax sail {number}", f"wax sail 0 {number}",
                f"wax sail {number} 0", f"dip {number}", f"dip {number} sail", f"brew {number}",
            ]:
                self.assert_refused(read, row)

    def test_the_edges_of_numbers(self):
        for number in [0, 1, 9, 10, 99, 100, 99999, 100000, 999999]:
            self.assert_read(f"brew {number}", ("brew", number))
            self.assert_read(f"wax a {number} {number}", ("wax", "a", (number, number)))

    def test_shades(self):
        for shades in NO_SHADES:
            self.assert_refused(read, f"wish sail 0 {shades}")
        for many in range(1, 13):
            self.assert_read("wish sail 0 " + "9" * many, ("wish", "sail", 0, (9,) * many))
            self.assert_read("wish sail 0 " + "0" * many, ("wish", "sail", 0, (0,) * many))

    def test_one_sign_changed(self):
        """Whatever is read is written just so."""
        rng = random.Random(62)
        signs = " \n-0129abz*.+_A"
        good = 0
        for many in range(20000):
            row = shown(drawn_deed(rng))
            at = rng.randrange(len(row) + 1)
            wrong = row[:at] + rng.choice(["", rng.choice(signs)]) + row[at + rng.randrange(2):]
            try:
                deed = read(wrong)
            except NoDeed:
                continue
            good += 1
            self.assertEqual(shown(deed), wrong)
        self.assertGreater(good, 1000)


class Book(Notes):
    def test_the_empty_book(self):
        self.assertEqual(book_shown([]), "")
        self.assertEqual(book_read(""), [])

    def test_one_deed(self):
        for deed, row in ROWS:
            self.assertEqual(book_shown([deed]), row + "\n")
            told = book_read(row + "\n")
            self.assertEqual(told, [deed])
            self.assertIs(type(told), list)
            self.assertEqual(kinds(told[0]), kinds(deed))

    def test_several_deeds(self):
        deeds = [deed for deed, row in ROWS]
        text = "".join([row + "\n" for deed, row in ROWS])
        self.assertEqual(book_shown(deeds), text)
        self.assertEqual(book_read(text), deeds)
        self.assertEqual(book_read("boil\nboil\n"), [("boil", ()), ("boil", ())])

    def test_drawn_books(self):
        rng = random.Random(63)
        for many in range(60):
            deeds = [drawn_deed(rng) for at in range(many)]
            self.assertEqual(book_read(book_shown(deeds)), deeds)

    def test_the_last_line_feed_gone(self):
        for deed, row in ROWS:
            self.assert_refused(book_read, row)
            self.assert_refused(book_read, "boil\n" + row)
            self.assert_refused(book_read, row + "\n ")

    def test_an_empty_row(self):
        for text in ["\n", "\n\n", "\nboil\n", "boil\n\n", "boil\n\nboil\n", "\nfold sail"]:
            self.assert_refused(book_read, text)

    def test_a_row_that_is_no_deed(self):
        for wrong in ["burn", "hang sail", " boil", "boil ", "fold Sail", "brew 01", "-", "hang sail 3\t"]:
            for rows in [[wrong], [wrong, "boil", "brew 0"], ["boil", wrong, "brew 0"], ["boil", "brew 0", wrong]]:
                self.assert_refused(book_read, "\n".join(rows) + "\n")

    def test_the_list_handed_in_stays(self):
        deeds = [("hang", "a", 3), ("wax", "a", (2, 0)), ("boil", ())]
        kept = list(deeds)
        text = book_shown(deeds)
        self.assertEqual(deeds, kept)
        deeds.clear()
        self.assertEqual(book_shown(kept), text)

    def test_what_is_told_is_new(self):
        text = "hang a 3\nboil a\n"
        first = book_read(text)
        first.clear()
        self.assertEqual(book_read(text), [("hang", "a", 3), ("boil", ("a",))])
        book_read("").append(None)
        self.assertEqual(book_read(""), [])


if __name__ == "__main__":
    unittest.main()
