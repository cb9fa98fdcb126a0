"""A longer run of deeds of two loans, held against walking day by day."""

import unittest

from loanplan.errors import BadDay, BadPay, BadRate, LoanError
from loanplan.loans import Loan


class Walker:
    """A loan as points 6 to 9 tell it, one day after the other."""

    def __init__(self, amount, rates):
        self.left = amount
        self.begun = 0
        self.day = 0
        self.rates = list(rates)

    def walked(self, day):
        begun = self.begun
        for at in range(self.day + 1, day + 1):
            begun += self.left * [rate for first, rate in self.rates if first <= at][-1]
        return self.left, begun

    def stand(self, day):
        if not self.day <= day <= 100000:
            raise BadDay("walked")
        return self.walked(day)

    def owed(self, day):
        left, begun = self.stand(day)
        cents = left
        while begun > 0:
            cents += 1
            begun -= 1000000
        return cents

    def pay(self, day, cents):
        owed = self.owed(day)
        if not 1 <= cents <= owed:
            raise BadPay("walked")
        left, self.begun = self.walked(day)
        self.day = day
        if cents == owed:
            self.left = self.begun = 0
            return cents - left, left
        interest = 0
        while self.begun >= 1000000 and interest < cents:
            self.begun -= 1000000
            interest += 1
        self.left -= cents - interest
        return interest, cents - interest

    def change(self, day, rate):
        if day <= self.day or any(day <= first for first, _ in self.rates) or day > 100000:
            raise BadDay("walked")
        if not 0 <= rate <= 100000:
            raise BadRate("walked")
        self.rates.append((day, rate))


def outcome(deed, *given):
    """What a deed gives, or the kind of its refusal."""
    try:
        return deed(*given)
    except LoanError as why:
        return type(why)


def state(loan):
    return loan.left, loan.begun, loan.day, list(loan.rates)


class Numbers:
    """The same row of numbers each time, far enough from a pattern."""

    def __init__(self, seed):
        self.at = seed

    def below(self, bound):
        self.at = (self.at * 6364136223846793005 + 1442695040888963407) % 2 ** 64
        return (self.at >> 33) % bound


class DeedsTest(unittest.TestCase):
    def next_deed(self, numbers, walker):
        """A deed near the loan's own day: about a third of them is refused."""
        day = walker.day + numbers.below(9) - 1
        kind = numbers.below(10)
        if kind < 2 and len(walker.rates) < 60:
            day = max(walker.day, walker.rates[-1][0]) + numbers.below(6) - 1
            return "change", (day, numbers.below(4000) - 100 if kind else numbers.below(2) * 100001)
        if kind < 4:
            return ("stand", "owed")[kind - 2], (day,)
        owed = walker.owed(max(day, walker.day))
        whole = walker.walked(max(day, walker.day))[1] // 1000000
        some = [0, 1, -1, whole - 1, whole, whole + 1, owed + 1, numbers.below(40), numbers.below(40)]
        if walker.left < 50:
            some += [owed - 1, owed]
        return "pay", (day, some[numbers.below(len(some))])

    def run_deeds(self, amount, rates, seeds):
        pairs = [(Loan(amount, rates), Walker(amount, rates), Numbers(seed)) for seed in seeds]
        seen = {}
        for _ in range(500):
            for loan, walker, numbers in pairs:
                name, given = self.next_deed(numbers, walker)
                told = outcome(getattr(loan, name), *given)
                self.assertEqual(told, outcome(getattr(walker, name), *given), (name, given))
                self.assertEqual(state(loan), state(walker), (name, given))
                seen[name, told if isinstance(told, type) else "done"] = True
        return seen

    def test_two_loans_of_one_list(self):
        rates = [(0, 900), (20, 0), (25, 3000)]
        seen = self.run_deeds(4000, rates, [7, 2026])
        self.assertEqual(rates, [(0, 900), (20, 0), (25, 3000)])
        wanted = [("pay", "done"), ("pay", BadDay), ("pay", BadPay)]
        wanted += [("change", "done"), ("change", BadDay), ("change", BadRate)]
        wanted += [("stand", "done"), ("stand", BadDay), ("owed", "done"), ("owed", BadDay)]
        for each in wanted:
            self.assertIn(each, seen)

    def test_small_loans_down_to_nothing(self):
        for amount in [1, 2, 30, 200]:
            for seed in [1, 11, 21]:
                self.run_deeds(amount, [(0, 40000), (15, 99999)], [seed, seed + 1])

    def test_a_twin_goes_its_own_way(self):
        loan = Loan(4000, [(0, 900)])
        loan.pay(10, 100)
        walker = Walker(4000, [(0, 900)])
        walker.pay(10, 100)
        twin = loan.twin()
        loan.change(12, 5)
        loan.pay(30, 1000)
        deeds = [("change", (15, 80)), ("pay", (9, 5)), ("pay", (20, 77)), ("change", (15, 1)), ("owed", (90,))]
        for name, given in deeds:
            self.assertEqual(outcome(getattr(twin, name), *given), outcome(getattr(walker, name), *given))
            self.assertEqual(state(twin), state(walker))


if __name__ == "__main__":
    unittest.main()
