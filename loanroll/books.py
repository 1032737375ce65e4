"""Books: a loan's terms and its entries, told kind by kind."""

from loanroll.counts import Count
from loanroll.entries import days_of, is_within, sum_by, summed
from loanroll.errors import NoTerms, TooMany
from loanroll.steps import table_of
from loanroll.stills import joined, moved

MOST_GRACE = 366
MOST_ENTRIES = 500


def check_terms(count, grace):
    if not isinstance(count, Count):
        raise NoTerms("terms need a count")
    if not is_within(grace, 0, MOST_GRACE):
        raise NoTerms("grace is a whole number from 0 to 366")


def rate_table(entries, word):
    return table_of([(entry.day, entry.rate) for entry in entries if entry.word() == word])


def still_spans(entries):
    stills = [entry for entry in entries if entry.word() == "still"]
    # Made by its class a still may end where it begins, or ahead: then it has no days.
    return joined([(entry.day, entry.until) for entry in stills if entry.day < entry.until])


def fallen_dues(entries, spans):
    return summed([(moved(spans, row[0]), row[1]) for row in sum_by(entries, "due")])


class Book:
    def __init__(self, count, grace, entries):
        check_terms(count, grace)
        if len(entries) > MOST_ENTRIES:
            raise TooMany("a book has at most 500 entries")
        self.own_count = count
        self.own_grace = grace
        self.own_entries = list(entries)
        # Told many times over, and never changed: so reckoned once.
        self.out_sums = sum_by(entries, "out")
        self.fee_sums = sum_by(entries, "fee")
        self.pay_sums = sum_by(entries, "pay")
        self.turn_days = days_of(entries, "turn")
        self.rate_rows = rate_table(entries, "rate")
        self.late_rows = rate_table(entries, "late")
        self.spans = still_spans(entries)
        self.due_sums = fallen_dues(entries, self.spans)

    def count(self):
        return self.own_count

    def grace(self):
        return self.own_grace

    def entries(self):
        return list(self.own_entries)

    def outs(self):
        return list(self.out_sums)

    def fees(self):
        return list(self.fee_sums)

    def pays(self):
        return list(self.pay_sums)

    def turns(self):
        return list(self.turn_days)

    def rates(self):
        return list(self.rate_rows)

    def lates(self):
        return list(self.late_rows)

    def stills(self):
        return list(self.spans)

    def dues(self):
        return list(self.due_sums)

    def deed_days(self):
        days = [row[0] for row in self.out_sums + self.fee_sums + self.pay_sums]
        return sorted(set(days + self.turn_days))

    def with_more(self, entries):
        return Book(self.own_count, self.own_grace, self.own_entries + entries)
