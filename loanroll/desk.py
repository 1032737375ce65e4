"""The desk: a loan told and asked for by rows of words."""

from loanroll.accounts import account
from loanroll.arrears import open_dues
from loanroll.changes import differences
from loanroll.costs import cost, flows_of
from loanroll.counts import count_named
from loanroll.entries import MOST_AMOUNT
from loanroll.errors import NoCount, NoLoan, NoRow, NoText
from loanroll.leasts import least_even, least_once
from loanroll.months import due_days
from loanroll.plans import Even, Parts, Plan, Steps
from loanroll.rolls import Roll
from loanroll.texts import read_cents, read_date, read_entry, read_whole, show_cents, show_date, show_entry, show_whole
from loanroll.walks import MOST_DAYS, planned

# What the words behind a row's first one are; behind these an entry's words stand in a put, and a plan's in a plan.
FORMS = {
    "loan": ("count", "whole"),
    "put": ("date", "whole"),
    "strike": ("date", "whole"),
    "owed": ("date", "date"),
    "told": ("date", "date"),
    "open": ("date", "date"),
    "entries": ("date",),
    "differ": ("date", "date", "date"),
    "even": ("date", "date", "many"),
    "once": ("date", "date", "date"),
    "plan": ("date", "date", "many"),
    "cost": ("date",),
}


def read_many(text):
    many = read_whole(text)
    if not 1 <= many <= MOST_DAYS:
        raise NoText("there are 1 to 360 days")
    return many


def read_sum(text):
    cents = read_cents(text)
    if not 0 <= cents <= MOST_AMOUNT:
        raise NoText("a sum has 0 to 10 ** 12 cents")
    return cents


def read_plan(words):
    kind = words[:1]
    sums = [read_sum(word) for word in words[1:]]
    if kind == ["plain"] and len(sums) == 0:
        return Plan()
    if kind == ["parts"] and len(sums) == 0:
        return Parts()
    if kind == ["even"] and len(sums) == 1:
        return Even(sums[0])
    if kind == ["steps"] and len(sums) > 0:
        return Steps(sums)
    raise NoText("there is no such plan")


def read_word(kind, text):
    if kind == "count":
        return count_named(text)
    if kind == "whole":
        return read_whole(text)
    if kind == "many":
        return read_many(text)
    return read_date(text)


def read_words(words):
    if words[0] not in FORMS:
        raise NoText("no row begins with this word")
    form = FORMS[words[0]]
    if len(words) <= len(form):
        raise NoText("the row has too few words")
    things = [read_word(form[place], words[place + 1]) for place in range(len(form))]
    rest = words[len(form) + 1:]
    if words[0] == "put":
        things.append(read_entry(rest))
    elif words[0] == "plan":
        things.append(read_plan(rest))
    elif len(rest) > 0:
        raise NoText("the row has too many words")
    return things


def read_row(words):
    try:
        return read_words(words)
    except (NoCount, NoText):
        raise NoRow("this is no row") from None


def listed(texts):
    return "; ".join(texts) if len(texts) > 0 else "-"


def tell_account(debt):
    return " ".join([show_cents(debt.principal()), show_cents(debt.interest()), show_cents(debt.credit())])


def tell_dues(rows):
    return listed([" ".join([show_date(row[0]), show_cents(row[1]), show_cents(row[2])]) for row in rows])


def tell_entries(rows):
    return listed([" ".join([show_whole(row[0]), show_entry(row[1])]) for row in rows])


def tell_differences(rows):
    return listed([" ".join([show_whole(row[0]), show_cents(row[1])]) for row in rows])


def tell_plan(rows):
    return listed([" ".join([show_date(row[0]), show_cents(row[1])]) for row in rows])


def tell_cost(book):
    millionths = cost(flows_of(book))
    return "-" if millionths is None else show_whole(millionths)


def done(roll, word, things):
    if word == "put":
        roll.put(things[0], things[1], things[2])
    else:
        roll.strike(things[0], things[1])
    return "ok"


def told_at(roll, word, things):
    day = things[0]
    if word == "owed":
        return show_cents(roll.owed(day, things[1]))
    if word == "told":
        return tell_account(account(roll.book(things[1]), day))
    if word == "open":
        return tell_dues(open_dues(roll.book(things[1]), day))
    return tell_differences(differences(roll, day, things[1], things[2]))


def told_of(roll, word, things):
    book = roll.book(things[0])
    if word == "entries":
        return tell_entries(roll.standing(things[0]))
    if word == "even":
        return show_cents(least_even(book, due_days(things[1], things[2])))
    if word == "once":
        return show_cents(least_once(book, things[1], things[2]))
    if word == "plan":
        return tell_plan(planned(book, due_days(things[1], things[2]), things[3]))
    return tell_cost(book)


class Desk:
    def __init__(self):
        self.roll = None

    def say(self, row):
        if not isinstance(row, str):
            raise NoRow("a row is a text")
        words = row.split(" ")
        things = read_row(words)
        if (self.roll is None) != (words[0] == "loan"):
            raise NoLoan("a loan is told once, ahead of all other rows")
        if words[0] == "loan":
            self.roll = Roll(things[0], things[1])
            return "ok"
        if words[0] in ("put", "strike"):
            return done(self.roll, words[0], things)
        if words[0] in ("owed", "told", "open", "differ"):
            return told_at(self.roll, words[0], things)
        return told_of(self.roll, words[0], things)
