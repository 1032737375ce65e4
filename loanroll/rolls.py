"""Rolls: what was put and struck under numbers, as known on any day."""

from loanroll.accounts import owed
from loanroll.books import Book, check_terms
from loanroll.days import LAST_DAY, is_day
from loanroll.entries import Entry, entry_of, is_within
from loanroll.errors import Back, BadEntry, NoDay, NoNumber, TooMany

MOST_NUMBER = 1000000000
MOST_DEEDS = 500


def check_number(thing):
    if not is_within(thing, 1, MOST_NUMBER):
        raise NoNumber("a number is a whole number from 1 to 10 ** 9")


def check_entry(thing):
    if not isinstance(thing, Entry):
        raise BadEntry(0)
    # Its class looked at nothing: so its row is read as if it were handed in by itself.
    entry_of(thing.row())


class Roll:
    def __init__(self, count, grace):
        check_terms(count, grace)
        self.own_count = count
        self.own_grace = grace
        # Tuples (day of knowing, number, entry or None for a strike), in the order in which they came in.
        self.deeds = []

    def put(self, known, number, entry):
        self.check_known(known)
        check_number(number)
        check_entry(entry)
        self.keep(known, number, entry)

    def strike(self, known, number):
        self.check_known(known)
        check_number(number)
        # No deed is known later than on the last day: this is what stands now.
        if number not in dict(self.standing(LAST_DAY)):
            raise NoNumber("nothing stands under this number")
        self.keep(known, number, None)

    def standing(self, known):
        told = {}
        for deed in self.deeds:
            if deed[0] <= known:
                told[deed[1]] = deed[2]
        return [(number, told[number]) for number in sorted(told) if told[number] is not None]

    def book(self, known):
        return Book(self.own_count, self.own_grace, [row[1] for row in self.standing(known)])

    def owed(self, day, known):
        return owed(self.book(known), day)

    def history(self, number):
        return [(deed[0], deed[2]) for deed in self.deeds if deed[1] == number]

    def knowns(self):
        return sorted(set([deed[0] for deed in self.deeds]))

    def check_known(self, known):
        if not is_day(known):
            raise NoDay("the day of knowing is no day")
        if len(self.deeds) > 0 and known < self.deeds[-1][0]:
            raise Back("the day of knowing is ahead of the last deed's")

    def keep(self, known, number, entry):
        # Refused last of all, so a wrong deed is told as wrong by a full roll, too.
        if len(self.deeds) >= MOST_DEEDS:
            raise TooMany("a roll has at most 500 deeds")
        self.deeds.append((known, number, entry))
