"""Papers: the least even sum with two statements that show it, and whether such a paper is right."""

from loanroll.errors import TooMany
from loanroll.leasts import least_even, with_pays
from loanroll.statements import statement, statement_ok
from loanroll.walks import check_days


def even_rows(book, days, amount):
    return statement(with_pays(book, days, amount), days[-1])


def even_paper(book, days):
    amount = least_even(book, days)
    fewer = None if amount == 0 else even_rows(book, days, amount - 1)
    return (amount, even_rows(book, days, amount), fewer)


def is_even_rows(book, days, amount, rows):
    return statement_ok(with_pays(book, days, amount), days[-1], rows)


def leaves_nothing(book, rows):
    return rows[-1][6] // book.count().unit() <= 0


def is_fewer(book, days, amount, rows):
    if amount == 0:
        return rows is None
    return is_even_rows(book, days, amount - 1, rows) and not leaves_nothing(book, rows)


def paper_ok(book, days, paper):
    try:
        check_days(book, days)
    except TooMany:
        return False
    # The sum is not sought again: the two statements show by themselves whether it is the least one.
    if paper[0] < 0 or not is_even_rows(book, days, paper[0], paper[1]):
        return False
    return leaves_nothing(book, paper[1]) and is_fewer(book, days, paper[0], paper[2])
