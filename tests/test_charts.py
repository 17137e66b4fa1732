"""Bolts as charts, and back."""

import copy
import random
import unittest

from drawn import all_bolts, pots_of

from waxcloth.bolt import bare, with_wax
from waxcloth.charts import chart, read_chart
from waxcloth.errors import NoChart

TWELVE = (0, 1, 2, 3, 4, 5, 6, 7, 8, 9, 0, 1)
# Each bolt and its number of pots, with the chart that the document asks for, sign by sign.
CHARTS = [
    ([], 0, "bolt 0 0\n"),
    ([], 1, "bolt 1 0\n"),
    ([], 12, "bolt 12 0\n"),
    ([((), False, ())], 0, "bolt 0 1\n- . -\n"),
    ([((), True, ()), ((), False, ())], 0, "bolt 0 2\n- * -\n- . -\n"),
    ([((0,), False, (9,))], 1, "bolt 1 1\n0 . 9\n"),
    ([((9,), True, (0,)), ((4,), False, (5,))], 1, "bolt 1 2\n9 * 0\n4 . 5\n"),
    (
        [((0, 0, 7), True, (0, 1, 7)), ((0, 0, 0), False, (0, 0, 0)), ((9, 9, 9), True, (1, 2, 3))], 3,
        "bolt 3 3\n007 * 017\n000 . 000\n999 * 123\n",
    ),
    ([(TWELVE, False, TWELVE[::-1])], 12, "bolt 12 1\n012345678901 . 109876543210\n"),
    ([(TWELVE, True, (9,) * 12)], 12, "bolt 12 1\n012345678901 * 999999999999\n"),
    (bare(2, 999), 2, "bolt 2 999\n" + "00 . 00\n" * 999),
    (with_wax(bare(0, 999), tuple(range(999))), 0, "bolt 0 999\n" + "- * -\n" * 999),
]


def kinds(pair):
    """The kinds of all that the pair of pots and bolt bears."""
    pots, bolt = pair
    return (type(pair), type(pots), type(bolt), [
        (type(cell), [type(part) for part in cell], [type(shade) for shade in cell[0] + cell[2]]) for cell in bolt
    ])


class Chart(unittest.TestCase):
    def test_sign_by_sign(self):
        for bolt, pots, text in CHARTS:
            with self.subTest(text[:20]):
                kept = copy.deepcopy(bolt)
                self.assertEqual(chart(bolt, pots), text)
                self.assertEqual(bolt, kept)

    def test_somewhat_beyond_is_not_refused(self):
        self.assertEqual(chart(bare(1, 1000), 1), "bolt 1 1000\n" + "0 . 0\n" * 1000)
        self.assertEqual(chart(bare(13, 1), 13), "bolt 13 1\n" + "0" * 13 + " . " + "0" * 13 + "\n")


class ReadChart(unittest.TestCase):
    def assert_refused(self, text):
        with self.subTest(repr(text[:60])):
            with self.assertRaises(NoChart) as caught:
                read_chart(text)
            self.assertIs(type(caught.exception), NoChart)

    def assert_cell_refused(self, row, pots):
        """The row is refused as the only cell's, the first and the last of several."""
        good = " ".join(["0" * pots or "-", ".", "0" * pots or "-"]) + "\n"
        self.assertEqual(read_chart(f"bolt {pots} 2\n" + good * 2), (pots, bare(pots, 2)))
        self.assert_refused(f"bolt {pots} 1\n{row}\n")
        self.assert_refused(f"bolt {pots} 3\n{row}\n" + good * 2)
        self.assert_refused(f"bolt {pots} 3\n" + good * 2 + f"{row}\n")

    def test_each_chart_back_to_the_pair(self):
        for bolt, pots, text in CHARTS:
            with self.subTest(text[:20]):
                told = read_chart(text)
                self.assertEqual(told, (pots, bolt))
                self.assertEqual(kinds(told), kinds((pots, bolt)))

    def test_drawn_bolts(self):
        for bolt in all_bolts(71, 3):
            for pots in ([pots_of(bolt)] if bolt else range(13)):
                told = read_chart(chart(bolt, pots))
                self.assertEqual(told, (pots, bolt))
                self.assertEqual(kinds(told), kinds((pots, bolt)))

    def test_the_empty_text(self):
        for text in ["", "\n", "\n\n", " ", " \n"]:
            self.assert_refused(text)

    def test_another_first_word(self):
        for word in ["", "bolts", "Bolt", "BOLT", "chart", "house", "bol", "0", "*"]:
            self.assert_refused(f"{word} 0 0\n")
        for row in ["bolt", "bolt 0", "0 0", "bolt 0 0 0", "bolt00", "bolt 00", "0 bolt 0", "0 0 bolt"]:
            self.assert_refused(row + "\n")

    def test_numbers_that_are_not_plain(self):
        for number in [
            "00", "01", "-0", "-1", "+1", "", "1.0", "1_0", "a", "-", "*", "0x1", "1000000", "\u0661", "\u00b2",
            "\uff10",
        ]:
            self.assert_refused(f"bolt {number} 0\n")
            self.assert_refused(f"bolt 0 {number}\n")
            self.assert_refused(f"bolt {number} 1\n0 . 0\n")
            self.assert_refused(f"bolt 1 {number}\n0 . 0\n")

    def test_too_many_pots(self):
        for pots in (13, 14, 100, 999999):
            self.assert_refused(f"bolt {pots} 0\n")
        self.assert_refused("bolt 13 1\n" + "0" * 13 + " . " + "0" * 13 + "\n")

    def test_too_many_cells(self):
        self.assert_refused("bolt 1 1000\n" + "0 . 0\n" * 1000)
        self.assert_refused("bolt 0 1000\n" + "- . -\n" * 1000)
        self.assert_refused("bolt 1 1000\n")

    def test_rows_too_many_or_too_few(self):
        for many in (0, 1, 2, 4, 5):
            self.assert_refused("bolt 1 3\n" + "0 . 0\n" * many)
        self.assert_refused("bolt 1 0\n0 . 0\n")
        self.assert_refused("bolt 1 999\n" + "0 . 0\n" * 1000)
        self.assert_refused("bolt 1 999\n" + "0 . 0\n" * 998)

    def test_words_turned_about(self):
        for row in [". 00 00", "00 00 .", "* 00 00", "00 00 *", ". . .", "00 00 00", "* . *"]:
            self.assert_cell_refused(row, 2)
        for row in [". - -", "- - .", "- - -"]:
            self.assert_cell_refused(row, 0)

    def test_words_too_many_or_too_few(self):
        for row in ["", "00", "00 .", ". 00", "00 . 00 00", "00 . 00 .", "00 00", "00.00", "00*00", "00 .00"]:
            self.assert_cell_refused(row, 2)

    def test_wrong_numbers_of_figures(self):
        for pots in range(13):
            good = "7" * pots or "-"
            for many in range(15):
                if many != pots:
                    wrong = "7" * many or "-"
                    self.assert_cell_refused(f"{wrong} . {good}", pots)
                    self.assert_cell_refused(f"{good} * {wrong}", pots)

    def test_a_stroke_where_there_are_pots(self):
        for row in ["- . 0", "0 . -", "- . -", "- * -"]:
            self.assert_cell_refused(row, 1)

    def test_figures_where_there_are_no_pots(self):
        for row in ["0 . -", "- . 0", "0 . 0", "00 . 00", "-0 . -", "-- . --", " . "]:
            self.assert_cell_refused(row, 0)

    def test_other_signs_for_wax(self):
        for code in list(range(32, 127)) + [10]:
            sign = chr(code)
            if sign not in "*.":
                self.assert_cell_refused(f"0 {sign} 0", 1)
        for wax in ["", "**", "..", "*.", ".*", "True", "False", "1"]:
            self.assert_cell_refused(f"0 {wax} 0", 1)

    def test_signs_that_are_no_figures(self):
        for sign in ["a", "A", "-", "+", "_", ".", "*", "\u0661", "\u00b2", "\uff11"]:
            self.assert_cell_refused(f"{sign} . 0", 1)
            self.assert_cell_refused(f"0 . {sign}", 1)
            self.assert_cell_refused(f"0{sign} . 00", 2)
            self.assert_cell_refused(f"00 . {sign}0", 2)

    def test_blanks(self):
        for bolt, pots, text in CHARTS[:-2]:
            for at, sign in enumerate(text):
                if sign in " \n":
                    self.assert_refused(text[:at] + " " + text[at:])
                    self.assert_refused(text[:at + 1] + " " + text[at + 1:])
            self.assert_refused(" " + text)
            self.assert_refused(text + " ")

    def test_line_feeds(self):
        for bolt, pots, text in CHARTS:
            self.assert_refused(text[:-1])
            self.assert_refused(text + "\n")
            self.assert_refused("\n" + text)
            self.assert_refused(text.replace("\n", "\r\n"))
            self.assert_refused(text.replace("\n", "\n\n", 1))
            self.assert_refused(text + text)

    def test_one_sign_changed(self):
        """Whatever is read is written just so."""
        rng = random.Random(72)
        good = 0
        for many in range(6000):
            bolt, pots, text = rng.choice(CHARTS[:-2])
            at = rng.randrange(len(text) + 1)
            wrong = text[:at] + rng.choice(["", rng.choice(" \n-0129ab*.")]) + text[at + rng.randrange(2):]
            try:
                told_pots, told = read_chart(wrong)
            except NoChart:
                continue
            good += 1
            self.assertEqual(chart(told, told_pots), wrong)
        self.assertGreater(good, 300)

    def test_what_is_told_is_new(self):
        text = "bolt 1 1\n0 . 9\n"
        first = read_chart(text)
        first[1].clear()
        self.assertEqual(read_chart(text), (1, [((0,), False, (9,))]))


if __name__ == "__main__":
    unittest.main()
