"""Entries: what is told of a loan, each from its own day on."""

from loanroll.days import LAST_DAY, is_day, is_whole
from loanroll.errors import BadEntry

WORDS = ("out", "fee", "turn", "pay", "due", "rate", "late", "still")
MOST_AMOUNT = 1000000000000
MOST_RATE = 1000000


class Entry:
    def __init__(self, day):
        self.day = day

    def word(self):
        return ""

    def row(self):
        return (self.word(), self.day)


class AmountEntry(Entry):
    def __init__(self, day, amount):
        Entry.__init__(self, day)
        self.amount = amount

    def row(self):
        return (self.word(), self.day, self.amount)


class RateEntry(Entry):
    def __init__(self, day, rate):
        Entry.__init__(self, day)
        self.rate = rate

    def row(self):
        return (self.word(), self.day, self.rate)


class Out(AmountEntry):
    def word(self):
        return "out"


class Fee(AmountEntry):
    def word(self):
        return "fee"


class Pay(AmountEntry):
    def word(self):
        return "pay"


class Due(AmountEntry):
    def word(self):
        return "due"


class Turn(Entry):
    def word(self):
        return "turn"


class Rate(RateEntry):
    def word(self):
        return "rate"


class Late(RateEntry):
    def word(self):
        return "late"


class Still(Entry):
    def __init__(self, day, until):
        Entry.__init__(self, day)
        self.until = until

    def word(self):
        return "still"

    def row(self):
        return (self.word(), self.day, self.until)


def has_form(row):
    if not isinstance(row, tuple) or len(row) == 0:
        return False
    word = row[0]
    # Other things are not compared with a word: they might answer anything, or fail.
    if not isinstance(word, str) or word not in WORDS:
        return False
    return len(row) == (2 if word == "turn" else 3)


def is_within(thing, least, most):
    return is_whole(thing) and least <= thing <= most


def is_third(word, day, thing):
    if word == "fee":
        return is_within(thing, -MOST_AMOUNT, MOST_AMOUNT)
    if word in ("rate", "late"):
        return is_within(thing, 0, MOST_RATE)
    if word == "still":
        # A span may end on the day behind the last one.
        return is_within(thing, day + 1, LAST_DAY + 1)
    return is_within(thing, 1, MOST_AMOUNT)


def made(word, day, thing):
    if word == "out":
        return Out(day, thing)
    if word == "fee":
        return Fee(day, thing)
    if word == "pay":
        return Pay(day, thing)
    if word == "due":
        return Due(day, thing)
    if word == "rate":
        return Rate(day, thing)
    if word == "late":
        return Late(day, thing)
    return Still(day, thing)


def entry_of(row):
    if not has_form(row):
        raise BadEntry(0)
    if not is_day(row[1]):
        raise BadEntry(1)
    if row[0] == "turn":
        return Turn(row[1])
    if not is_third(row[0], row[1], row[2]):
        raise BadEntry(2)
    return made(row[0], row[1], row[2])


def summed(pairs):
    sums = {}
    for pair in pairs:
        sums[pair[0]] = sums.get(pair[0], 0) + pair[1]
    return sorted(sums.items())


def sum_by(entries, word):
    return summed([(entry.day, entry.amount) for entry in entries if entry.word() == word])


def days_of(entries, word):
    return sorted(set([entry.day for entry in entries if entry.word() == word]))
