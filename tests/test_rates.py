"""Points 1 to 5: rows of rates, the rate of a day, what a stretch of days brings."""

import unittest

from loanplan.errors import BadDay, BadRate, LoanError
from loanplan.rates import checked, grown, rate_on

# Numbers of 41 figures, the most that point 2 allows.
HUGE = [10 ** 40, 10 ** 41 - 1]
SIXTY = [(at * 7, (at * 37) % 101) for at in range(60)]


def slow_rate(rates, day):
    """Point 3 to the letter."""
    return [rate for first, rate in rates if first <= day][-1]


def slow_sum(rates, start, end):
    """Point 5 to the letter: day by day."""
    return sum(slow_rate(rates, day) for day in range(start + 1, end + 1))


class CheckedTest(unittest.TestCase):
    def refused(self, kind, rates):
        before = list(rates)
        with self.assertRaises(LoanError) as told:
            checked(rates)
        self.assertIs(type(told.exception), kind, rates)
        self.assertEqual(rates, before)

    def test_good_rows_come_back(self):
        for rates in [[(0, 0)], [(0, 120)], [(0, 5), (1, 5)], [(0, 9), (30, 0), (31, 7)], SIXTY]:
            with self.subTest(rates=rates):
                told = checked(rates)
                self.assertIs(type(told), list)
                self.assertEqual(told, rates)
                self.assertTrue(all(type(pair) is tuple for pair in told))

    def test_the_list_is_a_new_one_each_time(self):
        rates = [(0, 5), (3, 6)]
        first = checked(rates)
        second = checked(rates)
        self.assertIsNot(first, rates)
        self.assertIsNot(first, second)
        first.append((9, 9))
        self.assertEqual(rates, [(0, 5), (3, 6)])
        self.assertEqual(second, [(0, 5), (3, 6)])
        rates.clear()
        self.assertEqual(first, [(0, 5), (3, 6), (9, 9)])
        self.assertEqual(second, [(0, 5), (3, 6)])

    def test_the_row_that_is_handed_in_stays_as_it_was(self):
        for rates in [[(0, 5)], [(0, 5), (3, 6), (100000, 7)], list(SIXTY)]:
            before = list(rates)
            checked(rates)
            self.assertEqual(rates, before)

    def test_no_pairs(self):
        self.refused(BadDay, [])

    def test_a_first_day_that_is_not_0(self):
        for day in [1, 2, 100000, 100001, -1, -100000] + HUGE + [-most for most in HUGE]:
            self.refused(BadDay, [(day, 5)])
            self.refused(BadDay, [(day, 5), (100000, 5)])

    def test_a_later_day_stands_behind_the_one_ahead_of_it(self):
        self.assertEqual(checked([(0, 5), (1, 6), (2, 7)]), [(0, 5), (1, 6), (2, 7)])
        for day in [0, -1, -10 ** 40]:
            self.refused(BadDay, [(0, 5), (day, 6)])
        for day in [8, 9, 0, 1, -1]:
            self.refused(BadDay, [(0, 5), (9, 6), (day, 7)])
            self.refused(BadDay, [(0, 5), (9, 6), (day, 7), (50, 8)])

    def test_a_day_is_held_against_the_pair_right_ahead_of_it(self):
        self.refused(BadDay, [(0, 5), (20, 6), (30, 7), (25, 8)])

    def test_bounds_of_days(self):
        for day in [1, 99999, 100000]:
            self.assertEqual(checked([(0, 5), (day, 6)]), [(0, 5), (day, 6)])
        for day in [100001] + HUGE:
            self.refused(BadDay, [(0, 5), (day, 6)])
            self.refused(BadDay, [(0, 5), (100000, 6), (day, 7)])

    def test_bounds_of_rates(self):
        for rate in [0, 1, 99999, 100000]:
            self.assertEqual(checked([(0, rate)]), [(0, rate)])
            self.assertEqual(checked([(0, 5), (4, rate)]), [(0, 5), (4, rate)])
        for rate in [-1, 100001, -100000] + HUGE + [-most for most in HUGE]:
            self.refused(BadRate, [(0, rate)])
            self.refused(BadRate, [(0, 5), (4, rate)])
            self.refused(BadRate, [(0, 5), (4, rate), (6, 5)])

    def test_the_day_ahead_of_the_rate(self):
        for day in [1, -1, 100001]:
            for rate in [-1, 100001]:
                self.refused(BadDay, [(day, rate)])
        for day in [0, -1, 100001]:
            for rate in [-1, 100001]:
                self.refused(BadDay, [(0, 5), (day, rate)])

    def test_pair_by_pair(self):
        self.refused(BadRate, [(0, -1), (0, 5)])
        self.refused(BadRate, [(0, 100001), (100001, 5)])
        self.refused(BadDay, [(1, 5), (2, -1)])
        self.refused(BadRate, [(0, 5), (4, -1), (3, 5)])
        self.refused(BadDay, [(0, 5), (0, 5), (3, -1)])
        self.refused(BadDay, [(0, 5), (100001, 5), (3, -1)])

    def test_a_fault_in_the_last_of_60_pairs(self):
        self.refused(BadRate, SIXTY[:59] + [(500, 100001)])
        self.refused(BadDay, SIXTY[:59] + [(SIXTY[58][0], 5)])


class RateOnTest(unittest.TestCase):
    def test_one_pair_counts_on_each_day(self):
        for day in [0, 1, 2, 99999, 100000]:
            self.assertEqual(rate_on([(0, 120)], day), 120)
            self.assertEqual(rate_on([(0, 0)], day), 0)

    def test_around_the_day_of_a_pair(self):
        rates = [(0, 5), (10, 9), (11, 2), (40, 7)]
        told = {0: 5, 1: 5, 9: 5, 10: 9, 11: 2, 12: 2, 39: 2, 40: 7, 41: 7, 100000: 7}
        for day, rate in told.items():
            self.assertEqual(rate_on(rates, day), rate, day)

    def test_a_pair_on_the_last_day(self):
        rates = [(0, 100000), (100000, 0)]
        self.assertEqual(rate_on(rates, 99999), 100000)
        self.assertEqual(rate_on(rates, 100000), 0)

    def test_60_pairs(self):
        for day in list(range(SIXTY[-1][0] + 10)) + [100000]:
            self.assertEqual(rate_on(SIXTY, day), slow_rate(SIXTY, day), day)

    def test_the_row_stays_as_it_was(self):
        rates = list(SIXTY)
        for day in [0, 8, 100000]:
            rate_on(rates, day)
        self.assertEqual(rates, SIXTY)


class GrownTest(unittest.TestCase):
    def test_the_same_day_brings_nothing(self):
        for day in [0, 1, 9, 10, 11, 100000]:
            self.assertEqual(grown([(0, 5), (10, 9)], day, day), 0)

    def test_the_start_is_left_out_and_the_end_counted(self):
        rates = [(0, 5), (10, 900), (11, 70)]
        self.assertEqual(grown(rates, 8, 9), 5)
        self.assertEqual(grown(rates, 9, 10), 900)
        self.assertEqual(grown(rates, 10, 11), 70)
        self.assertEqual(grown(rates, 9, 11), 970)
        self.assertEqual(grown(rates, 8, 10), 905)

    def test_the_rate_of_day_0_alone_never_counts(self):
        self.assertEqual(grown([(0, 5), (1, 70)], 0, 1), 70)
        self.assertEqual(grown([(0, 5), (1, 70)], 0, 3), 210)

    def test_within_the_days_of_one_pair(self):
        self.assertEqual(grown([(0, 120)], 0, 30), 3600)
        self.assertEqual(grown([(0, 120)], 7, 8), 120)
        self.assertEqual(grown([(0, 1), (10, 7), (50, 3)], 20, 30), 70)
        self.assertEqual(grown([(0, 1), (10, 7), (50, 3)], 60, 70), 30)

    def test_over_several_pairs(self):
        rates = [(0, 1), (10, 7), (50, 3)]
        self.assertEqual(grown(rates, 0, 60), 9 * 1 + 40 * 7 + 11 * 3)
        self.assertEqual(grown(rates, 5, 20), 4 * 1 + 11 * 7)

    def test_a_rate_of_0_brings_nothing(self):
        self.assertEqual(grown([(0, 0)], 0, 100000), 0)
        self.assertEqual(grown([(0, 9), (5, 0)], 4, 100000), 0)

    def test_far_days(self):
        self.assertEqual(grown([(0, 100000)], 0, 100000), 10 ** 10)
        self.assertEqual(grown([(0, 3), (100000, 50)], 0, 100000), 99999 * 3 + 50)
        self.assertEqual(grown([(0, 3), (100000, 50)], 99999, 100000), 50)
        self.assertEqual(grown(SIXTY, 3, 100000), slow_sum(SIXTY, 3, 500) + (100000 - 500) * SIXTY[-1][1])

    def test_far_days_day_by_day(self):
        rates = [(0, 11), (300, 40000), (7000, 0), (7001, 9), (99999, 5)]
        for start, end in [(0, 100000), (299, 7001), (6999, 99998), (99998, 100000)]:
            self.assertEqual(grown(rates, start, end), slow_sum(rates, start, end))

    def test_each_stretch_day_by_day(self):
        rows = [[(0, 5)], [(0, 5), (1, 8)], [(0, 1), (2, 10), (3, 100), (7, 1000), (12, 0), (13, 9)]]
        for rates in rows:
            for start in range(18):
                for end in range(start, 18):
                    self.assertEqual(grown(rates, start, end), slow_sum(rates, start, end), (rates, start, end))

    def test_stretches_over_60_pairs_day_by_day(self):
        for start in range(0, 430, 13):
            for end in range(start, 440, 11):
                self.assertEqual(grown(SIXTY, start, end), slow_sum(SIXTY, start, end), (start, end))

    def test_two_stretches_together_are_the_whole_one(self):
        for start, middle, end in [(0, 0, 5), (0, 7, 7), (0, 6, 8), (3, 100, 413), (0, 413, 100000)]:
            together = grown(SIXTY, start, middle) + grown(SIXTY, middle, end)
            self.assertEqual(together, grown(SIXTY, start, end))

    def test_the_row_stays_as_it_was(self):
        rates = list(SIXTY)
        grown(rates, 0, 0)
        grown(rates, 5, 300)
        self.assertEqual(rates, SIXTY)


if __name__ == "__main__":
    unittest.main()
