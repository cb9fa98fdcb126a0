"""A loan: what is left of it, and the interest that is begun, day by day."""

from loanplan.errors import BadAmount, BadPay
from loanplan.rates import check_day, check_pair, checked, grown

HIGHEST_AMOUNT = 1000000000000
# Begun interest is counted in millionths of a cent.
MILLION = 1000000


def cents_owed(left, begun):
    """Count what is owed in cents, a begun cent counted whole."""
    return left + (begun + MILLION - 1) // MILLION


def paid_down(left, begun, cents):
    """Tell (left, begun) behind a payment of at most what is owed."""
    if cents == cents_owed(left, begun):
        # The last cent of interest may only be begun; paying all ends it too.
        return 0, 0
    interest = min(cents, begun // MILLION)
    return left - (cents - interest), begun - interest * MILLION


class Loan:
    """A loan as it stands on its own day; the fields are to be read alone."""

    def __init__(self, amount, rates):
        if amount < 1 or amount > HIGHEST_AMOUNT:
            raise BadAmount(f"an amount is from 1 to {HIGHEST_AMOUNT} cents")
        self.left = amount
        self.begun = 0
        self.day = 0
        self.rates = checked(rates)

    def stand(self, day):
        """Tell (left, begun) as they are on a day where nothing is paid till then."""
        check_day(day, self.day)
        return self.left, self.begun + self.left * grown(self.rates, self.day, day)

    def owed(self, day):
        """Tell the cents that are owed on a day, a begun cent counted whole."""
        left, begun = self.stand(day)
        return cents_owed(left, begun)

    def pay(self, day, cents):
        """Pay cents on a day, interest first, and tell them as (interest, off)."""
        left, begun = self.stand(day)
        owed = cents_owed(left, begun)
        if cents < 1 or cents > owed:
            raise BadPay(f"a payment is from 1 to what is owed, {owed} cents")
        self.left, self.begun = paid_down(left, begun, cents)
        self.day = day
        off = left - self.left
        return cents - off, off

    def change(self, day, rate):
        """Let a rate count from a day on that is later than all days so far."""
        check_pair(day, rate, max(self.day, self.rates[-1][0]))
        # A new list, so that a row that was read earlier stays what it was.
        self.rates = self.rates + [(day, rate)]

    def twin(self):
        """Give another Loan that is as this one and goes its own way."""
        # A loan may be paid back, but none begins with 0 cents: 1 stands in.
        other = Loan(1, self.rates)
        other.left = self.left
        other.begun = self.begun
        other.day = self.day
        return other
