"""Kinder books: whether one book asks on no day more than another, and what more was paid in it."""

from loanroll.arrears import handed, late_sums, running_sums, sum_upto
from loanroll.charges import breaks
from loanroll.days import LAST_DAY
from loanroll.steps import value_at
from loanroll.stills import stands


def is_never_above(one, other):
    # Tables change on their own days alone: in between all stays as it was.
    days = [row[0] for row in one + other if row[0] <= LAST_DAY]
    return all([value_at(one, day) <= value_at(other, day) for day in days])


def charging(table, spans):
    # What of the table charges: nothing on days that stand still.
    days = [0] + breaks(table, spans, 0, LAST_DAY + 1)
    return [(day, 0 if stands(spans, day) else value_at(table, day)) for day in days]


def is_charged_no_more(one, other):
    rates = is_never_above(charging(one.rates(), one.stills()), charging(other.rates(), other.stills()))
    lates = is_never_above(charging(one.lates(), one.stills()), charging(other.lates(), other.stills()))
    return rates and lates


def is_asked_no_more(one, other):
    pays = is_never_above(running_sums(other.pays()), running_sums(one.pays()))
    fees = is_never_above(running_sums(one.fees()), running_sums(other.fees()))
    dues = is_never_above(late_sums(one), late_sums(other))
    return pays and fees and dues


def is_kinder(one, other):
    if one.count().name() != other.count().name() or one.outs() != other.outs():
        return False
    if len(set(one.turns()) - set(other.turns())) > 0:
        return False
    return is_asked_no_more(one, other) and is_charged_no_more(one, other)


def gap_at(one, other, day):
    paid = handed(one, day) - handed(other, day)
    return paid + sum_upto(other.fees(), day) - sum_upto(one.fees(), day)
