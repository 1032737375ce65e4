"""Counts: how much each day weighs, and how much a year does."""

from loanroll.days import FIRST_YEAR, date_of, is_leap, new_year, year_of
from loanroll.errors import NoCount

# A rate tells hundredths of a percent: so many are the whole.
RATE_PARTS = 10000


class Count:
    def name(self):
        return "plain"

    def year(self):
        return 365

    def unit(self):
        return RATE_PARTS * self.year()

    def upto(self, day):
        return day

    def weight(self, a, b):
        return self.upto(b) - self.upto(a)


class Bank(Count):
    def name(self):
        return "bank"

    def year(self):
        return 360


class Thirty(Count):
    def name(self):
        return "thirty"

    def year(self):
        return 360

    def upto(self, day):
        # A 31st begins where the 30th does, and each month, however long, ends 30 behind its beginning.
        date = date_of(day)
        months = 12 * (date[0] - FIRST_YEAR) + date[1] - 1
        return 30 * months + min(date[2], 30) - 1


class Exact(Count):
    def name(self):
        return "exact"

    def year(self):
        return 365 * 366

    def upto(self, day):
        # 366 days of 365 weigh as much as 365 days of 366: the whole years ahead all weigh the same.
        year = year_of(day)
        each = 365 if is_leap(year) else 366
        return self.year() * (year - FIRST_YEAR) + each * (day - new_year(year))


def count_named(text):
    # Other things are not compared with a name: they might answer anything.
    if isinstance(text, str):
        for count in (Count(), Bank(), Thirty(), Exact()):
            if count.name() == text:
                return count
    raise NoCount("there is no count of this name")
