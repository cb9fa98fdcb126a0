"""The refusals: one class for each kind, all of them LoanErrors."""


class LoanError(ValueError):
    """Any refusal."""


class BadAmount(LoanError):
    """An amount that is out of bounds."""


class BadRate(LoanError):
    """A rate that is out of bounds."""


class BadDay(LoanError):
    """A day that is out of bounds or does not stand where it may."""


class BadPay(LoanError):
    """Cents that cannot be paid."""


class NoNote(LoanError):
    """A text that is no note."""
