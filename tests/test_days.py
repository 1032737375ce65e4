import calendar
import copy
import datetime
import unittest

from loanroll.days import LAST_DAY, date_of, day_of, is_day, is_leap, is_whole, month_days
from loanroll.errors import NoDay
from tests.refusals import assert_refused, other_things

DAY_0 = datetime.date(2000, 1, 1).toordinal()
FAR = 10 ** 60


def next_date(date):
    """The date behind this one, straight from what a month's last day is."""
    year, month, day = date
    if day < calendar.monthrange(year, month)[1]:
        return (year, month, day + 1)
    if month < 12:
        return (year, month + 1, 1)
    return (year + 1, 1, 1)


class Kinds(unittest.TestCase):
    def test_last_day(self):
        self.assertEqual(LAST_DAY, 999999)
        self.assertIs(type(LAST_DAY), int)

    def test_whole_numbers(self):
        for number in (0, 1, -1, 999999, 1000000, FAR, -FAR, FAR ** 100):
            self.assertIs(is_whole(number), True)

    def test_days(self):
        for number in (0, 1, 2, 365, 366, 500000, 999998, 999999):
            self.assertIs(is_day(number), True, number)

    def test_numbers_that_are_no_days(self):
        for number in (-1, -2, -999999, 1000000, 1000001, FAR, -FAR, -FAR ** 100, FAR ** 100):
            self.assertIs(is_day(number), False)

    def test_other_things(self):
        for place, thing in enumerate(other_things()):
            with self.subTest(place=place):
                self.assertIs(is_whole(thing), False)
                self.assertIs(is_day(thing), False)


class Calendar(unittest.TestCase):
    def test_leap_years(self):
        for year in (2000, 2004, 2008, 2096, 2104, 2400, 2800, 3200, 3600, 4000, 4400, 4736):
            self.assertIs(is_leap(year), True, year)

    def test_other_years(self):
        for year in (2001, 2002, 2003, 2099, 2100, 2200, 2300, 2500, 3000, 4100, 4700, 4735, 4737):
            self.assertIs(is_leap(year), False, year)

    def test_every_year(self):
        for year in range(2000, 4738):
            self.assertIs(is_leap(year), calendar.isleap(year), year)

    def test_months_of_leap_years(self):
        for year in (2000, 2004, 2400, 4736):
            told = [month_days(year, month) for month in range(1, 13)]
            self.assertEqual(told, [31, 29, 31, 30, 31, 30, 31, 31, 30, 31, 30, 31], year)

    def test_months_of_other_years(self):
        for year in (2001, 2100, 2200, 2300, 2500, 4737):
            told = [month_days(year, month) for month in range(1, 13)]
            self.assertEqual(told, [31, 28, 31, 30, 31, 30, 31, 31, 30, 31, 30, 31], year)

    def test_months_of_every_year(self):
        for year in range(2000, 4738):
            for month in range(1, 13):
                self.assertEqual(month_days(year, month), calendar.monthrange(year, month)[1])


class Dates(unittest.TestCase):
    def test_dates_by_hand(self):
        rows = [(0, (2000, 1, 1)), (1, (2000, 1, 2)), (30, (2000, 1, 31)), (31, (2000, 2, 1)),
                (58, (2000, 2, 28)), (59, (2000, 2, 29)), (60, (2000, 3, 1)),
                (365, (2000, 12, 31)), (366, (2001, 1, 1)), (424, (2001, 2, 28)),
                (425, (2001, 3, 1)), (730, (2001, 12, 31)), (731, (2002, 1, 1)),
                (36524, (2099, 12, 31)), (36525, (2100, 1, 1)), (36583, (2100, 2, 28)),
                (36584, (2100, 3, 1)), (146096, (2399, 12, 31)), (146097, (2400, 1, 1)),
                (146156, (2400, 2, 29)), (999998, (4737, 11, 26)), (999999, (4737, 11, 27))]
        for day, date in rows:
            with self.subTest(day=day):
                self.assertEqual(date_of(day), date)
                self.assertEqual(day_of(*date), day)

    def test_every_day_and_the_next_one(self):
        date = (2000, 1, 1)
        for day in range(LAST_DAY + 1):
            told = date_of(day)
            if told != date or day_of(*told) != day:
                self.fail(f"day {day} was told as {told}, it is {date}")
            date = next_date(date)
        self.assertEqual(date, (4737, 11, 28))

    def test_the_day_behind_the_last_one_is_reckoned_like_any_other(self):
        self.assertEqual(date_of(1000000), (4737, 11, 28))

    def test_ends_of_every_month(self):
        for year in range(2000, 4737):
            for month in range(1, 13):
                first = datetime.date(year, month, 1).toordinal() - DAY_0
                last = first + month_days(year, month) - 1
                self.assertEqual(day_of(year, month, 1), first)
                self.assertEqual(day_of(year, month, month_days(year, month)), last)
                self.assertEqual(date_of(first), (year, month, 1))
                self.assertEqual(date_of(last), (year, month, month_days(year, month)))

    def test_kinds_of_what_is_told(self):
        for day in (0, 59, 36584, 999999):
            date = date_of(day)
            self.assertIs(type(date), tuple)
            self.assertEqual([type(part) for part in date], [int, int, int])
            self.assertIs(type(day_of(*date)), int)


class Refusals(unittest.TestCase):
    def test_no_such_year(self):
        for year in (0, -1, 1, 4, 400, 1600, 1900, 1999, -2000, 4738, 4800, 10000, FAR, -FAR, FAR ** 100):
            assert_refused(self, NoDay, day_of, year, 1, 1)
            assert_refused(self, NoDay, day_of, year, 12, 31)

    def test_no_such_month(self):
        for month in (0, -1, -11, -12, 13, 14, 24, FAR, -FAR, FAR ** 100):
            assert_refused(self, NoDay, day_of, 2004, month, 1)

    def test_no_such_day(self):
        for year in (2000, 2001, 2100, 4736):
            for month in range(1, 13):
                for day in (0, -1, month_days(year, month) + 1, 32, FAR, -FAR, FAR ** 100):
                    assert_refused(self, NoDay, day_of, year, month, day)

    def test_ends_of_february(self):
        for year in (2001, 2002, 2003, 2100, 2200, 2300, 4737):
            assert_refused(self, NoDay, day_of, year, 2, 29)
        for year in (2000, 2004, 2400, 4736):
            assert_refused(self, NoDay, day_of, year, 2, 30)

    def test_ahead_of_day_0(self):
        for date in ((1999, 12, 31), (1999, 12, 30), (1999, 1, 1), (1996, 2, 29)):
            assert_refused(self, NoDay, day_of, *date)

    def test_behind_the_last_day(self):
        for date in ((4737, 11, 28), (4737, 11, 29), (4737, 11, 30), (4737, 12, 1), (4738, 1, 1)):
            assert_refused(self, NoDay, day_of, *date)

    def test_other_things_in_each_place(self):
        for place in range(3):
            for number, thing in enumerate(other_things()):
                with self.subTest(place=place, number=number):
                    handed = [2000, 1, 1]
                    handed[place] = thing
                    assert_refused(self, NoDay, day_of, *handed)

    def test_other_things_in_all_places(self):
        for number, thing in enumerate(other_things()):
            with self.subTest(number=number):
                assert_refused(self, NoDay, day_of, thing, thing, thing)

    def test_nothing_handed_in_is_changed(self):
        for thing in ([1, 2], {"a": [1]}, ([3],)):
            kept = copy.deepcopy(thing)
            is_whole(thing)
            is_day(thing)
            assert_refused(self, NoDay, day_of, thing, thing, thing)
            self.assertEqual(thing, kept)

    def test_a_refusal_changes_no_later_answer(self):
        assert_refused(self, NoDay, day_of, 2001, 2, 29)
        self.assertEqual(day_of(2001, 2, 28), 424)
        self.assertEqual(date_of(424), (2001, 2, 28))


if __name__ == "__main__":
    unittest.main()
