"""Days that lie whole months apart."""

from loanroll.days import date_of, day_of, month_days


def later(day, many):
    date = date_of(day)
    months = 12 * date[0] + date[1] - 1 + many
    year = months // 12
    month = months % 12 + 1
    return day_of(year, month, min(date[2], month_days(year, month)))


def due_days(first, many):
    if many > 0:
        # The last one is the furthest: refused here, no long list is begun.
        later(first, many - 1)
    return [later(first, months) for months in range(many)]


def months_between(one, other):
    start = date_of(one)
    end = date_of(other)
    months = 12 * (end[0] - start[0]) + end[1] - start[1]
    # Dates are compared, not days: the day in the end's month may be behind the last one.
    if min(start[2], month_days(end[0], end[1])) > end[2]:
        return months - 1
    return months
