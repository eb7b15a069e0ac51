import unittest

from samples import odd_things
from sealchain.stretches import covers, is_day, is_matters, is_stretch, is_within, lies_in, listed, met

# No end stands for all days to come; the last day of all lies only in a stretch without one.
DAYS = list(range(0, 9)) + [9998, 9999]
STRETCHES = [(start, stop) for start in range(0, 7) for stop in list(range(start + 1, 8)) + [None]]


def days_in(stretch):
    return {day for day in DAYS if stretch[0] <= day and (stretch[1] is None or day < stretch[1])}


class TestDays(unittest.TestCase):
    def test_days(self):
        for thing in (0, 1, 5000, 9998, 9999):
            self.assertIs(is_day(thing), True, thing)

    def test_no_days(self):
        for thing in odd_things() + [-1, 10000, True, False, None, "0", "5", 5.0, (5,), [5]]:
            self.assertIs(is_day(thing), False)


class TestStretches(unittest.TestCase):
    def test_stretches(self):
        for thing in ((0, 1), (0, 9999), (0, None), (5, 6), (9998, 9999), (9999, None)):
            self.assertIs(is_stretch(thing), True, thing)

    def test_no_stretches(self):
        bad = [(5, 5), (5, 4), (0, 0), (9999, 9999), (9999, 10000), (-1, 3), (-1, None), (10000, None), (3, 10000),
               (None, 3), (None, None), (3, True), (False, 3), (False, True), (True, None), (3, False), ("3", 4),
               (3, "4"), (3, ""), (3, 4.0), (3.0, 4), [3, 4], [3, None], (3,), (3, 4, 5), (3, None, None), (), 3, "34"]
        for thing in bad + odd_things():
            self.assertIs(is_stretch(thing), False)

    def test_lies_in_from_start_on_before_stop(self):
        self.assertEqual([lies_in(day, (3, 5)) for day in (2, 3, 4, 5, 6)], [False, True, True, False, False])
        self.assertEqual([lies_in(day, (3, 4)) for day in (2, 3, 4, 5)], [False, True, False, False])
        self.assertEqual([lies_in(day, (3, None)) for day in (0, 2, 3, 4, 9999)], [False, False, True, True, True])
        self.assertEqual([lies_in(day, (0, 9999)) for day in (0, 1, 9998, 9999)], [True, True, True, False])
        self.assertEqual([lies_in(day, (9999, None)) for day in (9998, 9999)], [False, True])

    def test_days_somewhat_beyond_are_not_refused(self):
        self.assertIs(lies_in(10000, (0, None)), True)
        self.assertIs(lies_in(10000, (0, 9999)), False)
        self.assertIs(lies_in(-1, (0, None)), False)

    def test_is_within_named_edges(self):
        for one, other, told in [
            ((3, 5), (3, 5), True), ((3, 5), (2, 6), True), ((3, 5), (3, 6), True), ((3, 5), (2, 5), True),
            ((3, 6), (3, 5), False), ((2, 5), (3, 5), False), ((3, 5), (5, 7), False), ((5, 7), (3, 5), False),
            ((3, 5), (4, 7), False), ((3, 5), (0, None), True), ((3, 5), (4, None), False),
            ((3, None), (3, None), True), ((3, None), (0, 9999), False), ((3, None), (2, None), True),
            ((2, None), (3, None), False), ((0, 9999), (0, None), True),
        ]:
            self.assertIs(is_within(one, other), told, (one, other))

    def test_is_within_is_as_the_days_are(self):
        for one in STRETCHES:
            for other in STRETCHES:
                self.assertIs(is_within(one, other), days_in(one) <= days_in(other), (one, other))

    def test_met_named_edges(self):
        for one, other, told in [
            ((3, 5), (5, 7), None), ((3, 5), (6, 7), None), ((3, 5), (4, 7), (4, 5)), ((3, 6), (4, 7), (4, 6)),
            ((2, 7), (3, 5), (3, 5)), ((3, 5), (3, 5), (3, 5)), ((3, 5), (4, None), (4, 5)), ((3, 5), (0, None), (3, 5)),
            ((3, 5), (5, None), None), ((3, None), (4, None), (4, None)), ((3, None), (3, None), (3, None)),
            ((0, 9999), (9998, None), (9998, 9999)), ((0, 9999), (9999, None), None),
        ]:
            self.assertEqual(met(one, other), told, (one, other))
            self.assertEqual(met(other, one), told, (other, one))

    def test_met_is_as_the_days_are(self):
        for one in STRETCHES:
            for other in STRETCHES:
                told = met(one, other)
                both = days_in(one) & days_in(other)
                if told is None:
                    self.assertEqual(both, set(), (one, other))
                else:
                    self.assertIs(is_stretch(told), True)
                    self.assertEqual(days_in(told), both, (one, other))


class TestMatters(unittest.TestCase):
    def test_matters(self):
        for thing in range(1, 256):
            self.assertIs(is_matters(thing), True, thing)

    def test_no_matters(self):
        for thing in odd_things() + [0, 256, -1, True, False, None, "5", 5.0, [5], (5,)]:
            self.assertIs(is_matters(thing), False)

    def test_listed_of_each_single_matter(self):
        for k in range(8):
            self.assertEqual(listed(1 << k), [k])

    def test_listed_is_rising_and_whole(self):
        self.assertEqual(listed(5), [0, 2])
        self.assertEqual(listed(255), [0, 1, 2, 3, 4, 5, 6, 7])
        for matters in range(1, 256):
            told = listed(matters)
            self.assertIsInstance(told, list)
            self.assertEqual(told, sorted(set(told)))
            self.assertEqual(sum(2 ** k for k in told), matters)

    def test_listed_is_the_askers_own(self):
        told = listed(5)
        told.append(7)
        told[0] = 99
        again = listed(5)
        self.assertEqual(again, [0, 2])
        self.assertEqual(told, [99, 2, 7])

    def test_covers_named_edges(self):
        self.assertIs(covers(5, 4), True)
        self.assertIs(covers(4, 5), False)
        self.assertIs(covers(5, 5), True)
        self.assertIs(covers(5, 2), False)
        self.assertIs(covers(2, 5), False)
        self.assertIs(covers(255, 1), True)
        self.assertIs(covers(1, 255), False)

    def test_covers_is_as_the_single_matters_are(self):
        for matters in range(1, 256):
            for some in range(1, 256):
                self.assertIs(covers(matters, some), set(listed(some)) <= set(listed(matters)))

    def test_matters_somewhat_beyond_are_not_refused(self):
        self.assertEqual(listed(0), [])
        self.assertIs(covers(255, 0), True)
        self.assertIs(covers(257, 256), True)
        self.assertIsInstance(listed(256), list)


if __name__ == "__main__":
    unittest.main()
