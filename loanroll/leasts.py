"""Least sums: what must be paid, evenly or at once, so that nothing is owed on a day."""

from loanroll.accounts import accounts_at, owed
from loanroll.days import is_day
from loanroll.errors import NoDays
from loanroll.walks import as_pays, check_days

FIRST_GUESS = 1000000


def paid_on(book, days, amount):
    return book.with_more(as_pays([(day, amount) for day in days]))


def with_pays(book, days, amount):
    check_days(book, days)
    return paid_on(book, days, amount)


def ends_on(book, days, amount):
    debts = accounts_at(with_pays(book, days, amount), days)
    for place in range(len(days)):
        if debts[place].owed() <= 0:
            return days[place]
    return None


def least_paid(book, days, last):
    # What is owed without is enough, and where a sum is enough, so is each greater one: it is sought by halves.
    low = 0
    high = max(0, owed(book, last))
    # That may have grown to hundreds of figures where a little, paid soon, is enough: so lesser sums are tried first.
    guess = FIRST_GUESS
    while guess < high and owed(paid_on(book, days, guess), last) > 0:
        low = guess + 1
        guess = guess * guess
    high = min(high, guess)
    while low < high:
        middle = (low + high) // 2
        if owed(paid_on(book, days, middle), last) <= 0:
            high = middle
        else:
            low = middle + 1
    return low


def least_even(book, days):
    check_days(book, days)
    return least_paid(book, days, days[-1])


def least_once(book, day, until):
    if not (is_day(day) and is_day(until)) or until < day:
        raise NoDays("a day is needed, and one that is not ahead of it")
    check_days(book, [day])
    return least_paid(book, [day], until)
