"""The refusals: each stands right under LoanError, none under another one."""


class LoanError(ValueError):
    pass


class NoDay(LoanError):
    pass


class NoCount(LoanError):
    pass


class NoTerms(LoanError):
    pass


class TooMany(LoanError):
    pass


class NoDays(LoanError):
    pass


class NoFlow(LoanError):
    pass


class Back(LoanError):
    pass


class NoNumber(LoanError):
    pass


class NoText(LoanError):
    pass


class NoRow(LoanError):
    pass


class NoLoan(LoanError):
    pass


class BadEntry(LoanError):
    def __init__(self, place):
        self.place = place
