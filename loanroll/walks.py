"""Walks: a book asked by a plan day after day, and such rows as entries."""

from loanroll.accounts import account
from loanroll.books import MOST_ENTRIES
from loanroll.days import is_day
from loanroll.entries import Due, Pay
from loanroll.errors import NoDays, TooMany

MOST_DAYS = 360


def are_days(things):
    if not isinstance(things, list) or not 1 <= len(things) <= MOST_DAYS:
        return False
    # All are looked at first: other things are not compared.
    if not all([is_day(thing) for thing in things]):
        return False
    return all([things[place - 1] < things[place] for place in range(1, len(things))])


def check_days(book, days):
    if not are_days(days):
        raise NoDays("days are a list of one to 360 rising, unlike days")
    if len(book.entries()) + len(days) > MOST_ENTRIES:
        raise TooMany("a book's entries and the days are at most 500 together")


def planned(book, days, plan):
    check_days(book, days)
    told = []
    for day in days:
        # What was asked on the days ahead is paid there: it lowers what is owed, and what is behind.
        paid = book.with_more(as_pays(told))
        told.append((day, plan.asks(account(paid, day), len(days) - len(told))))
    return told


def as_pays(rows):
    return [Pay(row[0], row[1]) for row in rows if row[1] > 0]


def as_dues(rows):
    return [Due(row[0], row[1]) for row in rows if row[1] > 0]
