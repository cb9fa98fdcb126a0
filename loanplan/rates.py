"""Rows of rates: lists of pairs (day, rate), each rate counting from its day on."""

from loanplan.errors import BadDay, BadRate

LAST_DAY = 100000
HIGHEST_RATE = 100000


def checked(rates):
    """Give a new list of the same pairs; BadDay or BadRate for the first fault."""
    if len(rates) == 0 or rates[0][0] != 0:
        raise BadDay("a row of rates begins with a pair for day 0")
    ahead = -1
    for day, rate in rates:
        check_pair(day, rate, ahead)
        ahead = day
    return list(rates)


def check_day(day, first):
    """Refuse a day that is earlier than `first` or behind the last day of all."""
    if day < first or day > LAST_DAY:
        raise BadDay(f"a day is here from {first} to {LAST_DAY}")


def check_pair(day, rate, ahead):
    """Refuse a pair whose day is not later than `ahead`, or that is out of bounds."""
    check_day(day, ahead + 1)
    if rate < 0 or rate > HIGHEST_RATE:
        raise BadRate(f"a rate is from 0 to {HIGHEST_RATE}")


def rate_on(rates, day):
    """Tell the rate of a day: that of the last pair whose day is not later."""
    told = 0
    for first, rate in rates:
        if first <= day:
            told = rate
    return told


def grown(rates, start, end):
    """Add up the rates of the days behind `start` up to `end`."""
    total = 0
    # From the last pair back, each pair takes the days from its own on that no
    # later pair has taken. So far days cost no more than near ones.
    untaken = end
    for first, rate in reversed(rates):
        before = max(start, first - 1)
        if before < untaken:
            total += rate * (untaken - before)
            untaken = before
    return total
