"""Charges: what a table's values come to over days, each by its weight."""

from loanroll.steps import value_at
from loanroll.stills import stands


def breaks(table, spans, a, b):
    days = [row[0] for row in table]
    days.extend([span[0] for span in spans])
    days.extend([span[1] for span in spans])
    return sorted(set([day for day in days if a < day < b]))


def charge(count, table, spans, a, b):
    if a >= b:
        return 0
    total = 0
    start = a
    # Between two breaks nothing changes: each stretch is weighed as one.
    for end in breaks(table, spans, a, b) + [b]:
        if not stands(spans, start):
            total = total + count.weight(start, end) * value_at(table, start)
        start = end
    return total
