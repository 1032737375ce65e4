"""Arrears: what was handed and asked by a day, and which dues are not met."""

from loanroll.steps import value_at


def sum_upto(rows, day):
    return sum([row[1] for row in rows if row[0] <= day])


def handed(book, day):
    return sum_upto(book.pays(), day)


def asked(book, day):
    return sum_upto(book.dues(), day)


def behind(book, day):
    return max(0, asked(book, day - book.grace()) - handed(book, day))


def open_dues(book, day):
    paid = handed(book, day)
    told = []
    total = 0
    for due in book.dues():
        total = total + due[1]
        # What was paid goes to the dues ahead first: this one lacks at most itself.
        lacks = min(due[1], total - paid)
        if due[0] <= day and lacks > 0:
            told.append((due[0], due[1], lacks))
    return told


def running_sums(rows):
    told = []
    total = 0
    for row in rows:
        total = total + row[1]
        told.append((row[0], total))
    return told


def late_sums(book):
    # A due counts as late so many days behind the one on which it falls as grace tells.
    return running_sums([(due[0] + book.grace(), due[1]) for due in book.dues()])


def first_with(sums, day, total):
    # Ahead of the day enough may have been handed long since: it counts from the day on.
    if value_at(sums, day) >= total:
        return day
    for row in sums:
        if row[0] > day and row[1] >= total:
            return row[0]
    return None


def met_on(book):
    sums = running_sums(book.pays())
    told = []
    total = 0
    for due in book.dues():
        total = total + due[1]
        told.append((due[0], due[1], first_with(sums, due[0], total)))
    return told
