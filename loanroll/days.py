"""Days as numbers and as dates: day 0 is the first of January 2000."""

from loanroll.errors import NoDay

LAST_DAY = 999999
FIRST_YEAR = 2000
# The calendar comes round after 400 years, which have this many days.
ROUND_YEARS = 400
ROUND_DAYS = 146097
LENGTHS = (31, 28, 31, 30, 31, 30, 31, 31, 30, 31, 30, 31)


def is_whole(thing):
    # To Python a truth is an int, too.
    return isinstance(thing, int) and not isinstance(thing, bool)


def is_day(thing):
    return is_whole(thing) and 0 <= thing <= LAST_DAY


def is_leap(year):
    return year % 4 == 0 and (year % 100 != 0 or year % 400 == 0)


def month_days(year, month):
    if month == 2 and is_leap(year):
        return 29
    return LENGTHS[month - 1]


def is_date(year, month, day):
    if not (is_whole(year) and is_whole(month) and is_whole(day)):
        return False
    return 1 <= month <= 12 and 1 <= day <= month_days(year, month)


def new_year(year):
    # The first year is a leap year itself, so the leap years ahead of a year are rounded up.
    years = year - FIRST_YEAR
    leaps = (years + 3) // 4 - (years + 99) // 100 + (years + 399) // 400
    return 365 * years + leaps


def year_of(day):
    # By the mean length a year may come out one too early or too late: from one less it only climbs.
    year = FIRST_YEAR + day * ROUND_YEARS // ROUND_DAYS - 1
    while new_year(year + 1) <= day:
        year = year + 1
    return year


def day_of(year, month, day):
    if not is_date(year, month, day):
        raise NoDay("this is no date")
    months_ahead = [month_days(year, ahead) for ahead in range(1, month)]
    number = new_year(year) + sum(months_ahead) + day - 1
    if not is_day(number):
        raise NoDay("this date is ahead of day 0 or behind the last day")
    return number


def date_of(day):
    year = year_of(day)
    month = 1
    rest = day - new_year(year)
    while rest >= month_days(year, month):
        rest = rest - month_days(year, month)
        month = month + 1
    return (year, month, rest + 1)
