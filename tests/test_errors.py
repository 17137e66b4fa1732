"""The refusals: what they stand under, and what they bear."""

import unittest

from waxcloth import errors

MADE_WITH_TEXT = [
    errors.NoName, errors.Taken, errors.BadSize, errors.NoCloth, errors.NoCell, errors.BadWish, errors.Twice,
    errors.NoDye, errors.Spent, errors.StillFresh, errors.TooDeep, errors.NothingLeft, errors.NoMark,
    errors.NoDeed, errors.NoHouse, errors.NoChart,
]
ALL = MADE_WITH_TEXT + [errors.Barred]


class Standing(unittest.TestCase):
    def test_the_root_is_a_value_error(self):
        self.assertTrue(issubclass(errors.WaxError, ValueError))
        self.assertEqual(str(errors.WaxError("why")), "why")

    def test_each_is_a_wax_error_and_a_value_error(self):
        for one in ALL:
            with self.subTest(one.__name__):
                self.assertTrue(issubclass(one, errors.WaxError))
                self.assertTrue(issubclass(one, ValueError))

    def test_none_stands_under_another_one(self):
        for one in ALL:
            for other in ALL:
                with self.subTest(f"{one.__name__} under {other.__name__}"):
                    self.assertEqual(issubclass(one, other), one is other)
            self.assertFalse(issubclass(errors.WaxError, one))

    def test_they_are_seventeen_unlike_ones(self):
        self.assertEqual(len(set(ALL)), 17)

    def test_each_is_taken_by_its_own_name_alone(self):
        for one in MADE_WITH_TEXT:
            for other in MADE_WITH_TEXT:
                taken = None
                try:
                    raise one("why")
                except other:
                    taken = True
                except errors.WaxError:
                    taken = False
                self.assertEqual(taken, one is other)

    def test_each_but_barred_is_made_with_a_text(self):
        for one in MADE_WITH_TEXT:
            with self.subTest(one.__name__):
                self.assertEqual(str(one("why it is so")), "why it is so")


class Bars(unittest.TestCase):
    def test_barred_bears_the_bars(self):
        bars = [("spare", 0, 1), ("deep", 2, 0)]
        error = errors.Barred(bars)
        self.assertEqual(error.bars, [("spare", 0, 1), ("deep", 2, 0)])
        self.assertIs(type(error.bars), list)

    def test_barred_of_no_bars(self):
        self.assertEqual(errors.Barred([]).bars, [])

    def test_barred_bears_bars_of_a_house(self):
        self.assertEqual(errors.Barred([("spent", "ab", 3, 1)]).bars, [("spent", "ab", 3, 1)])

    def test_the_list_handed_in_is_not_kept(self):
        bars = [("spare", 0, 1)]
        error = errors.Barred(bars)
        words = str(error)
        bars.append(("deep", 1, 1))
        bars[0] = ("spent", 5, 5)
        self.assertEqual(error.bars, [("spare", 0, 1)])
        self.assertEqual(str(error), words)
        self.assertFalse([thing for thing in error.args if thing is bars])

    def test_the_list_handed_in_is_not_changed(self):
        bars = [("spare", 0, 1)]
        error = errors.Barred(bars)
        error.bars.append(("deep", 1, 1))
        self.assertEqual(bars, [("spare", 0, 1)])

    def test_each_barred_has_bars_of_its_own(self):
        bars = [("spare", 0, 1)]
        first = errors.Barred(bars)
        second = errors.Barred(bars)
        first.bars.clear()
        self.assertEqual(second.bars, [("spare", 0, 1)])

    def test_barred_is_raised_and_taken(self):
        with self.assertRaises(errors.Barred) as caught:
            raise errors.Barred([("deep", 1, 1)])
        self.assertEqual(caught.exception.bars, [("deep", 1, 1)])


if __name__ == "__main__":
    unittest.main()
