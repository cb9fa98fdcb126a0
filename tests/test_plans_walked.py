"""Points 10 to 14 held against walking day by day, and at the document's limits."""

import unittest

from loanplan.loans import Loan
from loanplan.plans import cost, least_part, plan, saved


class Walker:
    """A loan as points 6 to 8 tell it, one day after the other."""

    def __init__(self, loan):
        self.left = loan.left
        self.begun = loan.begun
        self.day = loan.day
        self.rates = list(loan.rates)

    def walk(self, day):
        while self.day < day:
            self.day += 1
            self.begun += self.left * [rate for first, rate in self.rates if first <= self.day][-1]

    def owed(self):
        cents = self.left + self.begun // 1000000
        return cents + 1 if self.begun % 1000000 > 0 else cents

    def pay(self, cents):
        if cents == self.owed():
            told = cents - self.left, self.left
            self.left = self.begun = 0
            return told
        interest = 0
        while self.begun >= 1000000 and interest < cents:
            self.begun -= 1000000
            interest += 1
        self.left -= cents - interest
        return interest, cents - interest


def walked_plan(walker, days, part):
    """The payments, and what is owed on the last due day behind them."""
    payments = []
    for day in days:
        walker.walk(day)
        if walker.owed() == 0:
            continue
        paid = part if part < walker.owed() else walker.owed()
        payments.append((day, paid) + walker.pay(paid) + (walker.left,))
    return payments, walker.owed()


def walked_least(loan, days):
    part = 0
    while walked_plan(Walker(loan), days, part)[1] > 0:
        part += 1
    return part


def walked_cost(walker, days, part):
    payments, owed = walked_plan(walker, days, part)
    return sum(payment[1] for payment in payments) + owed


def walked_saved(loan, days, part, day, cents):
    early = Walker(loan)
    early.walk(day)
    early.pay(cents)
    return walked_cost(Walker(loan), days, part) - cents - walked_cost(early, days, part)


class Numbers:
    """The same row of numbers each time, far enough from a pattern."""

    def __init__(self, seed):
        self.at = seed

    def below(self, bound):
        self.at = (self.at * 6364136223846793005 + 1442695040888963407) % 2 ** 64
        return (self.at >> 33) % bound


class WalkedTest(unittest.TestCase):
    def some_loan(self, numbers):
        """A loan with some rates, which has often been paid something of."""
        most = [3, 90000, 100001][numbers.below(3)]
        rates = [(0, numbers.below(most))]
        while numbers.below(4) > 0:
            rates.append((rates[-1][0] + 1 + numbers.below(9), numbers.below(most)))
        loan = Loan(1 + numbers.below([5, 300, 5000][numbers.below(3)]), rates)
        while numbers.below(2) > 0:
            day = loan.day + numbers.below(7)
            loan.pay(day, 1 + numbers.below(loan.owed(day)))
            if loan.owed(loan.day) == 0:
                break
        return loan

    def some_days(self, loan, numbers):
        days = [loan.day + numbers.below(8)]
        while numbers.below(5) > 0:
            days.append(days[-1] + 1 + numbers.below(12))
        return days

    def held_against(self, loan, days, numbers):
        least = least_part(loan, days)
        self.assertEqual(least, walked_least(loan, days))
        first = loan.owed(days[0])
        for part in [1, least - 1, least, least + 1, first - 1, first, first + 1, 1 + numbers.below(first + 1)]:
            if part < 1:
                continue
            payments, _ = walked_plan(Walker(loan), days, part)
            self.assertEqual(plan(loan, days, part), payments)
            self.assertEqual(cost(loan, days, part), walked_cost(Walker(loan), days, part))
            day = loan.day + numbers.below(days[0] - loan.day + 1)
            owed = loan.owed(day)
            for cents in [1, owed, 1 + numbers.below(owed + 1)]:
                if 1 <= cents <= owed:
                    told = saved(loan, days, part, day, cents)
                    self.assertEqual(told, walked_saved(loan, days, part, day, cents))
                    self.assertGreaterEqual(told, 0)

    def test_some_loans_and_due_days(self):
        numbers = Numbers(2026)
        for _ in range(150):
            loan = self.some_loan(numbers)
            days = self.some_days(loan, numbers)
            with self.subTest(loan=vars(loan), days=days):
                self.held_against(loan, days, numbers)


class LimitsTest(unittest.TestCase):
    def loan(self, rate):
        """The largest loan, with 60 rates that lie close below the given one."""
        return Loan(10 ** 12, [(1690 * at, rate - at % 7) for at in range(60)])

    def held_together(self, loan, days, part):
        """What each payment tells of the one ahead of it, and the cost of them all."""
        payments = plan(loan, days, part)
        left = loan.left
        for at, (day, paid, interest, off, behind) in enumerate(payments):
            self.assertEqual((day, paid), (days[at], interest + off))
            self.assertEqual(behind, left - off)
            self.assertTrue(paid == part or at == len(payments) - 1)
            left = behind
        twin = loan.twin()
        for day, paid, interest, off, _ in payments:
            self.assertEqual(twin.pay(day, paid), (interest, off))
        owed = twin.owed(days[-1])
        self.assertEqual(cost(loan, days, part), sum(row[1] for row in payments) + owed)
        return owed

    def test_400_due_days_up_to_the_last_day(self):
        for rate in [100000, 400, 6]:
            for days in [list(range(0, 100001, 250))[1:], list(range(99601, 100001)), list(range(400))]:
                loan = self.loan(rate)
                self.assertEqual(len(days), 400)
                least = least_part(loan, days)
                self.assertGreater(self.held_together(loan, days, least - 1), 0)
                self.assertEqual(self.held_together(loan, days, least), 0)
                self.assertGreater(self.held_together(loan, days, 1), 0)
                self.assertEqual(self.held_together(loan, days, 10 ** 41 - 1), 0)
                first = days[0]
                for day in [0, first // 2, first]:
                    for cents in [1, loan.owed(day) // 3, loan.owed(day)]:
                        told = saved(loan, days, least, day, cents)
                        twin = loan.twin()
                        twin.pay(day, cents)
                        self.assertEqual(told, cost(loan, days, least) - cents - cost(twin, days, least))
                        self.assertGreaterEqual(told, 0)

    def test_numbers_of_the_largest_loan(self):
        loan = Loan(10 ** 12, [(0, 100000)])
        owed = 10 ** 12 + 10 ** 16
        self.assertEqual(least_part(loan, [100000]), owed)
        self.assertEqual(plan(loan, [100000], 10 ** 41 - 1), [(100000, owed, 10 ** 16, 10 ** 12, 0)])
        self.assertEqual(cost(loan, [100000], 1), owed)
        self.assertEqual(saved(loan, [100000], 1, 0, 10 ** 12), 10 ** 16)


if __name__ == "__main__":
    unittest.main()
