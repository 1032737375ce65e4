"""Spans of days that stand still: from the first on, the last not among them."""

from loanroll.steps import begun


def joined(spans):
    told = []
    for span in sorted(spans):
        # Spans that only touch have no day between them: they are one.
        if len(told) > 0 and span[0] <= told[-1][1]:
            told[-1] = (told[-1][0], max(told[-1][1], span[1]))
        else:
            told.append(span)
    return told


def moved(spans, day):
    many = begun(spans, day)
    if many == 0:
        return day
    # Joined spans end ahead of the next one's first: only the last that has begun may hold the day.
    return max(day, spans[many - 1][1])


def stands(spans, day):
    return moved(spans, day) > day


def still_days(spans, a, b):
    return sum([max(0, min(b, span[1]) - max(a, span[0])) for span in spans])
