"""Courses: steps in a house until the named cloths are met."""

import random
import unittest

from drawn import all_told, anew, clean_bolts, deeds_for, parted, pots_of

from waxcloth.course import Course
from waxcloth.errors import Barred, NoCloth, NothingLeft, Twice
from waxcloth.house import House
from waxcloth.needs import met

BOLTS = {
    "sail": [((0, 0, 0), False, (1, 0, 0)), ((0, 0, 0), False, (1, 1, 0))],
    "cap": [],
    "flag": [((0, 0, 0), True, (0, 0, 1)), ((3, 9, 8), False, (3, 9, 8))],
}
NAMES = ["flag", "sail"]


def clean():
    """Three fresh pots, three cloths without a bar, which take one boiling together."""
    return anew(3, deeds_for(BOLTS, [True] * 3))


def boilings_in(deeds):
    return len([deed for deed in deeds if deed[0] == "boil"])


class Courses(unittest.TestCase):
    def assert_refused(self, error, house, course, do):
        """It is refused with just this error; the house and the course's steps stay."""
        kept = (all_told(house), course.steps())
        with self.assertRaises(error) as caught:
            do()
        self.assertIs(type(caught.exception), error)
        self.assertEqual((all_told(house), course.steps()), kept)
        return caught.exception

    def assert_to_the_end(self, house, course, names):
        """Steps come to their end with the cloths met, boiling as often as told ahead."""
        told, first, many = house.boilings(names), len(course.steps()), len(house.book())
        done = []
        while course.left():
            kept = all_told(house)
            left = course.left()
            self.assertEqual(left, house.plan(names))
            self.assertEqual(course.left(), left)
            self.assertEqual(all_told(house), kept)
            self.assertEqual(house.boilings(names), told - boilings_in(done))
            deed = course.step()
            self.assertEqual(deed, left[0])
            done.append(deed)
            self.assertEqual(house.book()[many:], done)
            self.assertEqual(course.steps()[first:], done)
            self.assertEqual(house.ahead(), [])
            self.assertLess(len(done), 2000)
        self.assertTrue(met(house.bolt(names)))
        self.assertEqual(boilings_in(done), told)
        self.assert_refused(NothingLeft, house, course, course.step)
        self.assertEqual(course.left(), [])
        return done

    def test_to_the_end(self):
        house = clean()
        done = self.assert_to_the_end(house, Course(house, NAMES), NAMES)
        self.assertEqual(boilings_in(done), 1)
        self.assertEqual(len([deed for deed in done if deed[0] == "dip"]), 3)

    def test_drawn_houses(self):
        rng = random.Random(141)
        for bolt in clean_bolts(142, 2):
            pots = pots_of(bolt)
            house = anew(pots, deeds_for(parted(rng, bolt[:40], ["b", "a", "c"]), [True] * pots))
            for names in [["a"], ["c", "b"], ["b", "a", "c"]]:
                if not house.hindered(names):
                    self.assert_to_the_end(house, Course(house, names), names)

    def test_nothing_left_from_the_start(self):
        for names in [[], ["cap"]]:
            house = clean()
            course = Course(house, names)
            self.assertEqual((course.left(), course.steps()), ([], []))
            self.assert_refused(NothingLeft, house, course, course.step)
        house = House(0)
        course = Course(house, [])
        self.assert_refused(NothingLeft, house, course, course.step)

    def test_nothing_is_refused_when_it_is_made(self):
        house = anew(1, [("hang", "a", 1), ("wish", "a", 0, (5,))])
        for error, names in [
            (NoCloth, ["none"]), (NoCloth, ["a", "a", "none"]), (Twice, ["a", "a"]), (Barred, ["a"]), (NoCloth, [""]),
        ]:
            course = Course(house, names)
            self.assertEqual(course.steps(), [])
            self.assert_refused(error, house, course, course.left)
            self.assert_refused(error, house, course, course.step)

    def test_refusals_ahead_of_nothing_left(self):
        """The cloths are met or there are no cells, but the names are refused."""
        house = anew(1, [("hang", "a", 1), ("hang", "cap", 0)])
        for error, names in [
            (NoCloth, ["none"]), (NoCloth, ["cap", "cap", "none"]), (Twice, ["a", "a"]), (Twice, ["cap", "cap"]),
        ]:
            course = Course(house, names)
            self.assert_refused(error, house, course, course.step)

    def test_barred_bears_the_house_s_bars(self):
        house = anew(2, [("hang", "a", 2), ("dip", ("a",), 0), ("wish", "a", 1, (2, 2))])
        course = Course(house, ["a"])
        bars = [("spare", "a", 0, 0), ("spent", "a", 1, 0), ("deep", "a", 1, 1)]
        for do in (course.left, course.step):
            error = self.assert_refused(Barred, house, course, do)
            self.assertEqual(error.bars, bars)
            error.bars.clear()
        self.assertEqual(house.hindered(["a"]), bars)

    def test_deeds_of_others_between_steps(self):
        house = clean()
        course = Course(house, NAMES)
        steps = [course.step()]
        for deed in [
            ("hang", "new", 2), ("wax", "sail", (1,)), ("boil", ("flag",)), ("wish", "flag", 1, (4, 9, 9)),
            ("wish", "sail", 0, (0, 0, 0)), ("twin", "sail", "other"),
        ]:
            house.do(deed)
            self.assertEqual(course.left(), house.plan(NAMES))
        steps += self.assert_to_the_end(house, course, NAMES)
        self.assertEqual(course.steps(), steps)

    def test_others_bar_the_way_and_clear_it(self):
        house = clean()
        course = Course(house, NAMES)
        house.do(("dip", (), 1))
        error = self.assert_refused(Barred, house, course, course.step)
        self.assertEqual(error.bars, [("spent", "sail", 1, 1)])
        house.do(("brew", 1))
        self.assert_to_the_end(house, course, NAMES)

    def test_drawn_deeds_of_others(self):
        rng = random.Random(143)
        for bolt in clean_bolts(144, 1):
            pots = pots_of(bolt)
            house = anew(pots, deeds_for(parted(rng, bolt[:40], ["a", "b"]), [True] * pots))
            course = Course(house, ["b", "a"])
            for many in range(6):
                name = rng.choice(["a", "b"])
                size = len(house.stains(name))
                house.do(("wax", name, tuple([at for at in range(size) if rng.random() < 0.2])))
                if rng.random() < 0.4:
                    house.do(("boil", (name,)))
                if course.left():
                    course.step()
            self.assert_to_the_end(house, course, ["b", "a"])

    def test_steps_taken_back_in_the_house(self):
        house = clean()
        course = Course(house, NAMES)
        left = course.left()
        first = [course.step(), course.step()]
        self.assertEqual(house.undo(), first[1])
        self.assertEqual(house.undo(), first[0])
        self.assertEqual(course.steps(), first)
        self.assertEqual(course.left(), left)
        house.redo()
        self.assertEqual(course.steps(), first)
        done = self.assert_to_the_end(house, course, NAMES)
        self.assertEqual(course.steps(), first + done)
        while house.book():
            house.undo()
        self.assertEqual(course.steps(), first + done)
        self.assert_refused(NoCloth, house, course, course.step)

    def test_two_courses_over_one_house(self):
        house = clean()
        one, other = Course(house, ["sail"]), Course(house, NAMES)
        ones, others = [one.step()], [other.step()]
        while one.left() or other.left():
            if one.left():
                ones.append(one.step())
            if other.left():
                others.append(other.step())
        self.assertEqual((one.steps(), other.steps()), (ones, others))
        self.assertTrue(met(house.bolt(NAMES)))
        self.assertEqual(sorted(house.book()[-len(ones) - len(others):]), sorted(ones + others))

    def test_two_courses_for_the_same_cloths(self):
        house = clean()
        told = house.boilings(NAMES)
        one, other = Course(house, NAMES), Course(house, NAMES)
        done = []
        while one.left():
            self.assertEqual(one.left(), other.left())
            done.append((one if len(done) % 2 else other).step())
        self.assertTrue(met(house.bolt(NAMES)))
        self.assertEqual(boilings_in(done), told)
        self.assertEqual((other.steps(), one.steps()), (done[::2], done[1::2]))

    def test_a_cloth_folded_and_hung_anew(self):
        house = clean()
        course = Course(house, NAMES)
        steps = [course.step()]
        house.do(("fold", "sail"))
        self.assert_refused(NoCloth, house, course, course.left)
        self.assert_refused(NoCloth, house, course, course.step)
        house.do(("hang", "sail", 1))
        house.do(("wish", "sail", 0, (0, 1, 0)))
        steps += self.assert_to_the_end(house, course, NAMES)
        self.assertEqual(course.steps(), steps)

    def test_a_step_lets_go_of_what_could_be_done_again(self):
        house = clean()
        house.do(("boil", ()))
        house.mark("beyond")
        house.undo()
        course = Course(house, NAMES)
        course.left()
        self.assertEqual((house.ahead(), house.marks()), ([("boil", ())], [("beyond", len(house.book()) + 1)]))
        course.step()
        self.assertEqual((house.ahead(), house.marks()), ([], []))

    def test_the_names_handed_in_are_not_kept(self):
        house = clean()
        names = list(NAMES)
        course = Course(house, names)
        left = course.left()
        names.append("none")
        names.reverse()
        self.assertEqual(course.left(), left)
        names = list(NAMES)
        Course(house, names).step()
        self.assertEqual(names, NAMES)

    def test_what_is_told_is_new(self):
        house = clean()
        course = Course(house, NAMES)
        course.step()
        left, steps = course.left(), course.steps()
        course.left().clear()
        course.steps().clear()
        course.steps().append(None)
        self.assertEqual((course.left(), course.steps()), (left, steps))
        self.assertTrue(all(type(deed) is tuple for deed in left + steps))
        kept = course.steps()
        course.step()
        self.assertEqual(kept, steps)


if __name__ == "__main__":
    unittest.main()
