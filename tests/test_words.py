"""Section 2: what integers, fractions, ticks, names and courses are."""

from nevertakenback.courses import is_course
from nevertakenback.exact import fraction, greatest, is_at_most, is_less, lesser, minus, over, plus, times
from nevertakenback.words import (
    is_fraction, is_integer, is_integer_from, is_name, is_row, is_tick, is_time, read_fraction, read_integer, write_fraction,
)
from tests.samples import LINE, Case, court_of, wrong_rows, wrong_values


class Values(Case):
    def test_integers(self):
        for value in (0, 1, -1, 99, -10 ** 12):
            self.assertTrue(is_integer(value))
        for value in wrong_values():
            self.assertEqual(is_integer(value), value in (-1, 100000, 10 ** 11) and not isinstance(value, bool))
        self.assertEqual([is_integer_from(value, 2, 4) for value in range(1, 6)], [False, True, True, True, False])

    def test_ticks(self):
        for value in (0, 1, 99999):
            self.assertTrue(is_tick(value))
        for value in wrong_values() + [-1, 100000, (0, 1)]:
            self.assertFalse(is_tick(value))

    def test_fractions(self):
        for value in ((0, 1), (1, 1), (-1, 1), (1, 2), (-3, 2), (10 ** 9, 7)):
            self.assertTrue(is_fraction(value))
        wrong = [
            (1, 0), (0, 0), (-1, 0), (0, 2), (2, 4), (-2, 4), (1, -1), (-1, -2), (0, -1), (1,), (1, 2, 3), (True, 1),
            (1, True), (1, "2"), [1, 2], (1, (2, 1)), 1,
        ]
        for value in wrong_values() + wrong:
            self.assertFalse(is_fraction(value))

    def test_times(self):
        for value in ((0, 1), (1, 1), (1, 2), (10 ** 9, 7)):
            self.assertTrue(is_time(value))
        for value in wrong_values() + [(-1, 1), (-1, 2), (0, 2), (2, 4), (1, -2), [1, 2], 1, (True, 1), (1, True)]:
            self.assertFalse(is_time(value))

    def test_rows_of_times(self):
        for value in ((), ((0, 1),), ((1, 2), (0, 1), (7, 3))):
            self.assertTrue(is_row(value, len(value)))
            self.assertFalse(is_row(value, len(value) + 1))
            self.assertFalse(is_row(value, len(value) - 1))
        for value in wrong_rows(((1, 2), (0, 1))):
            self.assertFalse(is_row(value, 2))

    def test_names(self):
        for value in ("a", "z", "abcdef", "zzzzzz"):
            self.assertTrue(is_name(value))
        for value in wrong_values() + ["abcdefg", "aB", "a1", "a-", "`", "{", "a\n", ("a",)]:
            self.assertEqual(is_name(value), value == "nobody")

    def test_courses(self):
        court = court_of(LINE)
        for value in ((("b", 2), ("a", 2)), (("b", 999), ("c", 3)), (("b", 2), ("a", 2)) * 12):
            self.assertTrue(is_course(court, "a", value))
        wrong = [
            (("b", 2),), (("c", 5),), (("a", 2),), (("b", 1), ("a", 2)), (("b", 2), ("a", 1000)), [("b", 2), ("a", 2)],
            (["b", 2], ("a", 2)), (("b", True), ("a", 2)), (("b", 2), ("b", 2), ("a", 2)), (("b", 2), ("a", 2)) * 13,
            (("b", 2, 0), ("a", 2)), ("b", 2, "a", 2), (("b", 2), (["a"], 2)),
        ]
        for value in wrong_values() + wrong + [(("b", 2), (value, 2)) for value in wrong_values()]:
            self.assertFalse(is_course(court, "a", value))
        self.assertFalse(is_course(court, "c", (("b", 2), ("a", 2))))
        self.assertTrue(is_course(court, "c", (("b", 3), ("a", 2))))


class Texts(Case):
    def test_integers_as_python_writes_them(self):
        for number in (0, 1, -1, 99, 100, -10 ** 11):
            self.same(read_integer(str(number)), number)
        for word in ("", "-", "-0", "00", "01", "+1", "1_0", "1.0", " 1", "1 ", "1\t", "0x1", "one", "1e3", "--1", "True"):
            self.assertIsNone(read_integer(word))

    def test_fractions(self):
        for value in ((0, 1), (7, 1), (-7, 1), (1, 2), (-3, 2), (99, 100)):
            self.same(read_fraction(write_fraction(value)), value)
        rows = [((0, 1), "0"), ((7, 1), "7"), ((1, 2), "1/2"), ((-3, 2), "-3/2")]
        for value, word in rows:
            self.same(write_fraction(value), word)
        for word in ("", "/", "1/", "/2", "1/1", "0/1", "0/2", "2/4", "1/-2", "1/0", "1/2/3", "01/2", "1/02", "1 /2", "1//2"):
            self.assertIsNone(read_fraction(word))


class Fractions(Case):
    def test_least_terms(self):
        self.same([fraction(6, 4), fraction(-6, 4), fraction(0, 5), fraction(8, 2)], [(3, 2), (-3, 2), (0, 1), (4, 1)])
        self.same([minus((1, 1), (1, 2)), minus((1, 6), (2, 3)), minus((1, 2), (1, 2))], [(1, 2), (-1, 2), (0, 1)])

    def test_sums_and_products(self):
        self.same([plus((1, 2), (1, 3)), plus((1, 2), (-1, 2)), plus((3, 2), (1, 2))], [(5, 6), (0, 1), (2, 1)])
        self.same([times((2, 3), (3, 2)), times((-1, 2), (1, 3)), times((0, 1), (7, 2))], [(1, 1), (-1, 6), (0, 1)])

    def test_quotients(self):
        self.same([over((1, 2), (1, 3)), over((-1, 2), (3, 2)), over((0, 1), (7, 2))], [(3, 2), (-1, 3), (0, 1)])

    def test_the_greatest_one(self):
        self.same([greatest([(1, 2)]), greatest([(1, 2), (2, 3), (-9, 1)]), greatest([(0, 1), (-1, 7)])], [(1, 2), (2, 3), (0, 1)])
        self.assertEqual([is_less((1, 2), other) for other in ((1, 3), (1, 2), (2, 3))], [False, False, True])

    def test_by_what_they_are_worth(self):
        self.assertEqual([is_at_most((1, 2), other) for other in ((1, 3), (1, 2), (2, 3))], [False, True, True])
        self.same([lesser((1, 2), (2, 5)), lesser((-1, 2), (-1, 3)), lesser((9, 1), (10, 1))], [(2, 5), (-1, 2), (9, 1)])
