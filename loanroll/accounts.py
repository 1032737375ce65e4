"""Accounts: what the deeds and the charges of a book come to at a day."""

from loanroll.arrears import late_sums, running_sums
from loanroll.debts import Debt
from loanroll.steps import begun, value_at
from loanroll.stills import stands


def turning_days(book):
    # With day 0 among them each day has a turning day that is not behind it.
    days = [0]
    days.extend([row[0] for row in book.rates() + book.lates() + book.pays()])
    days.extend([row[0] + book.grace() for row in book.dues()])
    for span in book.stills():
        days.extend(span)
    return sorted(set(days))


def burdens(book):
    # Rows (day, rate, late rate, what is behind), each from its day on up to the next one's: reckoned at once
    # for a whole book, as each account asks for them stretch by stretch.
    spans = book.stills()
    rates = book.rates()
    lates = book.lates()
    asked_sums = late_sums(book)
    handed_sums = running_sums(book.pays())
    told = []
    for day in turning_days(book):
        if stands(spans, day):
            told.append((day, 0, 0, 0))
        else:
            lacks = max(0, value_at(asked_sums, day) - value_at(handed_sums, day))
            told.append((day, value_at(rates, day), value_at(lates, day), lacks))
    return told


def charged_by(count, rows, principal, a, b):
    total = 0
    start = a
    place = begun(rows, a)
    while start < b:
        row = rows[place - 1]
        end = min(b, rows[place][0]) if place < len(rows) else b
        total = total + count.weight(start, end) * (row[1] * principal + row[2] * min(principal, row[3]))
        start = end
        place = place + 1
    return total


def charged(book, principal, a, b):
    return charged_by(book.count(), burdens(book), principal, a, b)


def deeds_upto(book, days):
    # Rows (day, lent, fees, turned, paid) of all that is done up to the last of these days. Each of them has one,
    # too: where it has no deeds, all are 0.
    outs = dict(book.outs())
    fees = dict(book.fees())
    turns = dict([(turn, 1) for turn in book.turns()])
    pays = dict(book.pays())
    all_days = sorted(set([deed for deed in book.deed_days() if deed < days[-1]] + days))
    return [(deed, outs.get(deed, 0), fees.get(deed, 0), turns.get(deed, 0), pays.get(deed, 0)) for deed in all_days]


def do_deeds(debt, deeds):
    debt.lend(deeds[1])
    debt.fee(deeds[2])
    if deeds[3] == 1:
        debt.turn()
    debt.take(deeds[4])


def debts_behind(book, rows):
    # One debt for each row of deeds, each a copy, as the one that is walked on goes on changing.
    burden_rows = burdens(book)
    debt = Debt(book.count().unit())
    told = []
    start = 0
    for deeds in rows:
        debt.grow(charged_by(book.count(), burden_rows, debt.principal(), start, deeds[0]))
        do_deeds(debt, deeds)
        told.append(debt.copy())
        start = deeds[0]
    return told


def accounts_at(book, days):
    # Of many days, rising, in one walk: from the first one on again for each would take far longer.
    rows = deeds_upto(book, days)
    debts = debts_behind(book, rows)
    by_day = dict([(rows[place][0], debts[place]) for place in range(len(rows))])
    return [by_day[day] for day in days]


def account(book, day):
    return accounts_at(book, [day])[0]


def owed(book, day):
    return account(book, day).owed()
