"""Texts: whole numbers, cents, rates, dates and entries, each written in one way."""

from loanroll.days import date_of, day_of
from loanroll.entries import MOST_RATE, entry_of
from loanroll.errors import BadEntry, NoDay, NoText

FIGURES = "0123456789"
MOST_FIGURES = 30
# Python itself writes numbers of up to some thousand figures alone: greater ones are written part by part.
PART = 1000000000000000000
PART_FIGURES = 18


def check_text(thing):
    if not isinstance(thing, str):
        raise NoText("this is no text")


def are_figures(text):
    # Not by isdigit, which takes figures of other scripts, too.
    return all([sign in FIGURES for sign in text])


def read_whole(text):
    check_text(text)
    if not 1 <= len(text) <= MOST_FIGURES or not are_figures(text):
        raise NoText("a whole number has one to thirty figures")
    if text[0] == "0" and text != "0":
        raise NoText("a whole number has no nought ahead")
    return int(text)


def read_coins(text):
    parts = text.partition(".")
    if len(parts[2]) != 2 or not are_figures(parts[2]):
        raise NoText("cents have a point and two figures behind the coins")
    return 100 * read_whole(parts[0]) + int(parts[2])


def read_cents(text):
    check_text(text)
    if not text.startswith("-"):
        return read_coins(text)
    cents = read_coins(text[1:])
    if cents == 0:
        raise NoText("nought has no sign")
    return -cents


def read_rate(text):
    rate = read_cents(text)
    if not 0 <= rate <= MOST_RATE:
        raise NoText("a rate goes from 0.00 to 10000.00")
    return rate


def read_date(text):
    check_text(text)
    # All but the signs between are figures, and in their places: int would take blanks and signs, too.
    if len(text) != 10 or text[4] != "-" or text[7] != "-" or not are_figures(text[:4] + text[5:7] + text[8:]):
        raise NoText("a date has four, two and two figures with - between")
    try:
        return day_of(int(text[:4]), int(text[5:7]), int(text[8:]))
    except NoDay:
        raise NoText("there is no such date") from None


def show_whole(number):
    parts = []
    rest = number
    while rest >= PART:
        parts.append(str(rest % PART).zfill(PART_FIGURES))
        rest = rest // PART
    parts.append(str(rest))
    return "".join(reversed(parts))


def two_figures(number):
    return str(number).zfill(2)


def show_cents(cents):
    sign = "-" if cents < 0 else ""
    coins = show_whole(abs(cents) // 100)
    rest = two_figures(abs(cents) % 100)
    return f"{sign}{coins}.{rest}"


def show_rate(rate):
    return show_cents(rate)


def show_date(day):
    date = date_of(day)
    return "-".join([str(date[0]), two_figures(date[1]), two_figures(date[2])])


def read_third(word, text):
    if word in ("rate", "late"):
        return read_rate(text)
    if word == "still":
        return read_date(text)
    return read_cents(text)


def show_third(word, thing):
    if word in ("rate", "late"):
        return show_rate(thing)
    if word == "still":
        return show_date(thing)
    return show_cents(thing)


def read_entry(words):
    if not isinstance(words, list) or len(words) not in (2, 3):
        raise NoText("an entry has two or three words")
    for word in words:
        check_text(word)
    row = [words[0], read_date(words[1])]
    row.extend([read_third(words[0], text) for text in words[2:]])
    try:
        # It looks at the word and how many others it has, too.
        return entry_of(tuple(row))
    except BadEntry:
        raise NoText("this is no good entry") from None


def show_entry(entry):
    row = entry.row()
    words = [row[0], show_date(row[1])]
    words.extend([show_third(row[0], thing) for thing in row[2:]])
    return " ".join(words)
