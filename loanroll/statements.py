"""Statements: a book's deeds and accounts, row by row, and whether such rows are right."""

from loanroll.accounts import debts_behind, deeds_upto


def statement(book, day):
    deeds = deeds_upto(book, [day])
    debts = debts_behind(book, deeds)
    return [deeds[place] + (debts[place].principal(), debts[place].units()) for place in range(len(deeds))]


def statement_ok(book, day, rows):
    # Each row follows from the one ahead in just one way: so there is just one list that is right.
    return rows == statement(book, day)
