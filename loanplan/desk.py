"""A desk: rows of text done one behind the other with one loan."""

from loanplan.errors import BadDay, BadPay, BadRate, NoNote
from loanplan.loans import Loan
from loanplan.notes import read


def desk(amount, rate, lines):
    """Do each row with a loan of an amount and a first rate, and list the answers."""
    loan = Loan(amount, [(0, rate)])
    answers = []
    for line in lines:
        answers.append(answer(loan, line))
    return answers


def answer(loan, line):
    """Do one row and give its answer, also of what is refused."""
    try:
        return done(loan, read(line))
    except NoNote:
        return "no note"
    except BadDay:
        return "bad day"
    except BadRate:
        return "bad rate"
    except BadPay:
        return "bad pay"


def done(loan, note):
    """Do a note with a loan and give the answer."""
    day = note[1]
    if note[0] == "owe":
        return str(loan.owed(day))
    if note[0] == "rate":
        loan.change(day, note[2])
        return "ok"
    interest, off = loan.pay(day, note[2])
    return f"{interest} {off} {loan.left}"
