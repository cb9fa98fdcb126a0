"""Plans: one part paid on each due day, and what comes of it."""

from loanplan.errors import BadDay, BadPay
from loanplan.loans import cents_owed, paid_down
from loanplan.rates import check_day, grown


def plan(loan, days, part):
    """List (day, paid, interest, off, left) for each payment of a plan."""
    check_days(loan, days)
    check_part(part)
    return pay_parts(loan.twin(), days, part)


def least_part(loan, days):
    """Tell the least part by which nothing is owed on the last due day."""
    check_some_days(loan, days)
    sums = stretches(loan, days)
    # A larger part never leaves more owed, and one of all that is owed on the
    # first due day pays back all: so the least one is found by halving.
    low = 0
    high = loan.owed(days[0])
    while low < high:
        part = (low + high) // 2
        if pays_back(loan, sums, part):
            high = part
        else:
            low = part + 1
    return low


def cost(loan, days, part):
    """Tell all that a plan pays, and what is owed on the last due day behind it."""
    check_some_days(loan, days)
    check_part(part)
    twin = loan.twin()
    payments = pay_parts(twin, days, part)
    return sum([payment[1] for payment in payments]) + twin.owed(days[-1])


def saved(loan, days, part, day, cents):
    """Tell what a payment on a day up to the first due day saves of the cost."""
    without = cost(loan, days, part)
    if day < loan.day or day > days[0]:
        raise BadDay(f"an early day is here from {loan.day} to {days[0]}")
    twin = loan.twin()
    twin.pay(day, cents)
    return without - cents - cost(twin, days, part)


def check_days(loan, days):
    """Refuse due days that do not rise, or that are out of bounds."""
    first = loan.day
    for day in days:
        check_day(day, first)
        first = day + 1


def check_some_days(loan, days):
    """Refuse due days as for a plan, and also where there are none."""
    if len(days) == 0:
        raise BadDay("there is no due day")
    check_days(loan, days)


def check_part(part):
    """Refuse a part of less than one cent."""
    if part < 1:
        raise BadPay("a part is at least 1 cent")


def pay_parts(loan, days, part):
    """Pay the part on each due day until nothing is owed, and list the payments."""
    payments = []
    for day in days:
        paid = min(part, loan.owed(day))
        if paid == 0:
            break
        interest, off = loan.pay(day, paid)
        payments.append((day, paid, interest, off, loan.left))
    return payments


def stretches(loan, days):
    """List what each stretch brings: up to the first due day, and from each to the next."""
    starts = [loan.day] + days[:-1]
    return [grown(loan.rates, start, end) for start, end in zip(starts, days)]


def pays_back(loan, sums, part):
    """Tell if a part leaves nothing owed behind the stretches that bring `sums`."""
    # Many parts are tried on the same stretches, so they are not summed anew.
    left = loan.left
    begun = loan.begun
    for brought in sums:
        begun += left * brought
        left, begun = paid_down(left, begun, min(part, cents_owed(left, begun)))
    return left == 0 and begun == 0
