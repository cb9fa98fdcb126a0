"""Points 1, 2 and 16: a desk and all of its answers."""

import unittest

from loanplan.desk import desk
from loanplan.errors import BadAmount, BadRate, LoanError

# Numbers of 41 figures, the most that point 2 allows.
HUGE = [10 ** 40, 10 ** 41 - 1]
LOW = [-most for most in HUGE]


class DeskTest(unittest.TestCase):
    def answers(self, amount, rate, rows):
        """The rows are pairs of a row and its answer."""
        lines = [line for line, _ in rows]
        kept = list(lines)
        told = desk(amount, rate, lines)
        self.assertEqual(told, [answer for _, answer in rows])
        self.assertEqual(lines, kept)
        self.assertIs(type(told), list)
        for answer in told:
            self.assertIs(type(answer), str)

    def refused(self, kind, amount, rate, lines):
        kept = list(lines)
        with self.assertRaises(LoanError) as told:
            desk(amount, rate, lines)
        self.assertIs(type(told.exception), kind, (amount, rate))
        self.assertEqual(lines, kept)

    def test_all_the_answers(self):
        self.answers(1000, 1000, [
            ("owe 0", "1000"),
            ("owe 3", "1003"),
            ("rate 3 1500", "ok"),
            ("owe 3", "1004"),
            ("pay 3 400", "3 397 603"),
            ("owe 3", "604"),
            ("pay 2 5", "bad day"),
            ("pay 5 607", "bad pay"),
            ("rate 4 100001", "bad rate"),
            ("Pay 5 606", "no note"),
            ("pay 5 606", "3 603 0"),
            ("owe 5", "0"),
            ("owe 100000", "0"),
            ("pay 5 1", "bad pay"),
        ])

    def test_no_rows(self):
        self.answers(1000, 1000, [])

    def test_what_is_owed_leaves_the_loan_where_it_is(self):
        self.answers(1000, 1000, [("owe 100000", "101000"), ("owe 1", "1001"), ("pay 1 1", "1 0 1000")])

    def test_payments(self):
        self.answers(1000, 1000, [
            ("pay 0 1", "0 1 999"),
            ("pay 0 999", "0 999 0"),
        ])
        self.answers(1000, 1500, [
            ("pay 1 1001", "1 1000 0"),
            ("owe 1", "1"),
            ("pay 9 2", "bad pay"),
            ("pay 9 1", "1 0 0"),
            ("owe 9", "0"),
        ])

    def test_a_payment_tells_what_is_left_of_the_amount_alone(self):
        self.answers(1000, 100000, [("pay 10 1", "1 0 1000"), ("pay 10 1000", "999 1 999")])

    def test_bad_days(self):
        self.answers(1000, 1000, [
            ("owe 100001", "bad day"),
            ("pay 100001 1", "bad day"),
            ("rate 100001 1", "bad day"),
            ("rate 0 1", "bad day"),
            ("pay 5 6", "5 1 999"),
            ("owe 4", "bad day"),
            ("pay 4 1", "bad day"),
            ("rate 5 1", "bad day"),
            ("rate 6 1", "ok"),
            ("rate 6 1", "bad day"),
            ("owe " + "9" * 30, "bad day"),
            ("pay " + "9" * 30 + " 1", "bad day"),
            ("rate " + "9" * 30 + " 1", "bad day"),
            ("owe 5", "999"),
            ("pay 100000 1", "1 0 999"),
        ])

    def test_bad_pays(self):
        self.answers(1000, 1000, [
            ("pay 5 0", "bad pay"),
            ("pay 5 1006", "bad pay"),
            ("pay 5 " + "9" * 30, "bad pay"),
            ("pay 5 1005", "5 1000 0"),
        ])

    def test_bad_rates(self):
        self.answers(1000, 1000, [
            ("rate 5 100001", "bad rate"),
            ("rate 5 " + "9" * 30, "bad rate"),
            ("rate 5 100000", "ok"),
            ("rate 6 0", "ok"),
            ("owe 7", "1104"),
        ])

    def test_no_notes(self):
        lines = ["", " ", "pay", "pay 1", "pay 1 2 3", "pay 1  2", " pay 1 2", "pay 1 2 ", "pay 01 2", "pay 1 -2"]
        lines += ["owe", "owe 1 2", "OWE 1", "owe +1", "rate 1", "rate 1 2 3", "rate 1 1.5", "stand 3", "1 2"]
        lines += ["owe " + "1" * 31, "pay 1 " + "1" * 31, "rate " + "1" * 31 + " 2"]
        self.answers(1000, 1000, [(line, "no note") for line in lines] + [("owe 0", "1000")])

    def test_the_day_ahead_of_the_cents_and_of_the_rate(self):
        self.answers(1000, 1000, [
            ("pay 100001 0", "bad day"),
            ("pay 100001 5000", "bad day"),
            ("rate 100001 100001", "bad day"),
            ("rate 0 100001", "bad day"),
        ])

    def test_a_refused_row_changes_nothing(self):
        plain = ["owe 9", "pay 5 10", "rate 20 7", "owe 30"]
        told = desk(1000, 1000, plain)
        for refused in ["pay 5 5000", "pay 9 0", "owe 100001", "rate 6 100001", "pay 100001 1", "pay 3", "rate 0 7"]:
            mixed = [line for each in plain for line in (refused, each)]
            answers = desk(1000, 1000, mixed)
            self.assertEqual(answers[1::2], told, refused)
            for answer in answers[::2]:
                self.assertIn(answer, ["no note", "bad day", "bad rate", "bad pay"])

    def test_bounds_of_amounts(self):
        for amount in [1, 2, 10 ** 12]:
            self.answers(amount, 5, [("owe 0", str(amount))])
        for amount in [0, -1, 10 ** 12 + 1] + HUGE + LOW:
            self.refused(BadAmount, amount, 5, ["owe 0"])
            self.refused(BadAmount, amount, 5, [])

    def test_bounds_of_first_rates(self):
        self.answers(1000, 0, [("owe 100000", "1000")])
        self.answers(1000, 100000, [("owe 1", "1100")])
        for rate in [-1, 100001] + HUGE + LOW:
            self.refused(BadRate, 1000, rate, ["owe 0"])
            self.refused(BadRate, 1000, rate, [])

    def test_the_amount_ahead_of_the_rate_and_of_all_rows(self):
        for lines in [[], ["owe 0"], ["no such note"], ["pay 100001 1"]]:
            for amount in [0, 10 ** 12 + 1]:
                for rate in [-1, 100001]:
                    self.refused(BadAmount, amount, rate, lines)
            self.refused(BadRate, 1000, 100001, lines)

    def test_60_rates(self):
        rows = [(f"rate {day} {day}", "ok") for day in range(1, 60)]
        self.answers(1000000, 0, rows + [("owe 60", str(1000000 + sum(range(60)) + 59))])

    def test_the_largest_loan(self):
        owed = 10 ** 12 + 10 ** 16
        self.answers(10 ** 12, 100000, [
            ("owe 100000", str(owed)),
            (f"pay 100000 {owed + 1}", "bad pay"),
            (f"pay 100000 {owed}", f"{10 ** 16} {10 ** 12} 0"),
        ])

    def test_what_is_told_is_the_askers_own(self):
        lines = ["owe 0", "pay 5 10"]
        told = desk(1000, 1000, lines)
        lines.append("owe 5")
        self.assertEqual(told, ["1000", "5 5 995"])
        told.clear()
        self.assertEqual(desk(1000, 1000, ["owe 0", "pay 5 10"]), ["1000", "5 5 995"])

    def test_two_desks_have_a_loan_each(self):
        lines = ["pay 5 10", "rate 9 7", "owe 20"]
        self.assertEqual(desk(1000, 1000, lines), desk(1000, 1000, lines))


if __name__ == "__main__":
    unittest.main()
