import calendar
import unittest

from loanroll.days import LAST_DAY, date_of, day_of
from loanroll.errors import NoDay
from loanroll.months import due_days, later, months_between
from tests.refusals import assert_refused

FAR = 10 ** 60
# From day 0's month to the last day's month: 2737 years and ten months.
ALL_MONTHS = 2737 * 12 + 10


def later_date(date, many):
    """The date so many months later, month by month."""
    year, month, day = date
    for _ in range(many):
        month += 1
        if month == 13:
            year, month = year + 1, 1
    return (year, month, min(day, calendar.monthrange(year, month)[1]))


def later_or_none(day, many):
    try:
        return later(day, many)
    except NoDay:
        return None


def some_days():
    """Days from all over, the ends of months of leap and other years among them."""
    days = list(range(0, 1000000, 7919)) + list(range(0, 800))
    for year in (2096, 2099, 2100, 2103, 2104, 2399, 2400, 4000, 4736):
        for month in range(1, 13):
            last = day_of(year, month, calendar.monthrange(year, month)[1])
            days += [last - 2, last - 1, last, last + 1]
    return sorted(days) + list(range(LAST_DAY - 70, LAST_DAY + 1))


class Later(unittest.TestCase):
    def assert_later(self, date, many, behind):
        self.assertEqual(later(day_of(*date), many), day_of(*behind), (date, many))

    def test_no_months_later(self):
        for day in some_days():
            self.assertEqual(later(day, 0), day)

    def test_from_the_31st(self):
        self.assert_later((2001, 1, 31), 1, (2001, 2, 28))
        self.assert_later((2001, 1, 31), 2, (2001, 3, 31))
        self.assert_later((2001, 1, 31), 3, (2001, 4, 30))
        self.assert_later((2000, 1, 31), 1, (2000, 2, 29))
        self.assert_later((2099, 12, 31), 2, (2100, 2, 28))
        self.assert_later((2000, 12, 31), 1, (2001, 1, 31))
        self.assert_later((2000, 8, 31), 1, (2000, 9, 30))

    def test_from_the_30th_and_the_29th(self):
        self.assert_later((2001, 1, 30), 1, (2001, 2, 28))
        self.assert_later((2004, 1, 30), 1, (2004, 2, 29))
        self.assert_later((2001, 4, 30), 1, (2001, 5, 30))
        self.assert_later((2001, 1, 29), 1, (2001, 2, 28))
        self.assert_later((2004, 1, 29), 1, (2004, 2, 29))
        self.assert_later((2001, 1, 29), 2, (2001, 3, 29))
        self.assert_later((2001, 1, 28), 1, (2001, 2, 28))

    def test_from_the_end_of_february(self):
        self.assert_later((2000, 2, 29), 12, (2001, 2, 28))
        self.assert_later((2000, 2, 29), 48, (2004, 2, 29))
        self.assert_later((2000, 2, 29), 1200, (2100, 2, 28))
        self.assert_later((2000, 2, 29), 4800, (2400, 2, 29))
        self.assert_later((2000, 2, 29), 1, (2000, 3, 29))
        self.assert_later((2001, 2, 28), 36, (2004, 2, 28))

    def test_over_years(self):
        self.assert_later((2000, 1, 1), 11, (2000, 12, 1))
        self.assert_later((2000, 1, 1), 12, (2001, 1, 1))
        self.assert_later((2000, 12, 15), 1, (2001, 1, 15))
        self.assert_later((2000, 12, 15), 12, (2001, 12, 15))
        self.assert_later((2000, 11, 30), 27, (2003, 2, 28))

    def test_month_by_month(self):
        for day in (0, 28, 29, 30, 59, 365, 36524, 146156, 500000):
            for many in list(range(0, 60)) + [359, 360, 1199, 1200, 4800]:
                self.assertEqual(date_of(later(day, many)), later_date(date_of(day), many))

    def test_just_to_the_last_day(self):
        self.assertEqual(later(LAST_DAY, 0), LAST_DAY)
        self.assertEqual(later(day_of(4737, 10, 27), 1), LAST_DAY)
        self.assertEqual(later(day_of(2000, 1, 27), ALL_MONTHS), LAST_DAY)
        self.assertEqual(later(day_of(2000, 11, 27), 2737 * 12), LAST_DAY)

    def test_behind_the_last_day(self):
        for number in (28, 29, 30, 31):
            assert_refused(self, NoDay, later, day_of(4737, 10, number), 1)
        assert_refused(self, NoDay, later, day_of(2000, 1, 28), ALL_MONTHS)
        assert_refused(self, NoDay, later, day_of(2000, 1, 1), ALL_MONTHS + 1)
        assert_refused(self, NoDay, later, LAST_DAY, 1)
        assert_refused(self, NoDay, later, LAST_DAY, 12)

    def test_however_many_months(self):
        for day in (0, 30, 59, 999999):
            for many in (ALL_MONTHS + 1, 10 ** 6, FAR, FAR + 1, FAR ** 100):
                assert_refused(self, NoDay, later, day, many)

    def test_kind_of_what_is_told(self):
        self.assertIs(type(later(30, 1)), int)


class DueDays(unittest.TestCase):
    def test_none(self):
        for first in (0, 30, LAST_DAY):
            self.assertEqual(due_days(first, 0), [])

    def test_each_is_counted_from_the_first(self):
        told = [date_of(day) for day in due_days(day_of(2001, 1, 31), 5)]
        self.assertEqual(told, [(2001, 1, 31), (2001, 2, 28), (2001, 3, 31), (2001, 4, 30), (2001, 5, 31)])
        told = [date_of(day) for day in due_days(day_of(2003, 12, 30), 4)]
        self.assertEqual(told, [(2003, 12, 30), (2004, 1, 30), (2004, 2, 29), (2004, 3, 30)])

    def test_one_is_the_first_itself(self):
        for first in (0, 30, 59, LAST_DAY):
            self.assertEqual(due_days(first, 1), [first])

    def test_many(self):
        for first in (0, 30, 59, 36524):
            for many in (2, 12, 360, 1000, 2500):
                told = due_days(first, many)
                self.assertEqual(len(told), many)
                self.assertEqual([date_of(day) for day in told[-12:]],
                                 [later_date(date_of(first), k) for k in range(many)[-12:]])
                self.assertEqual(told, [later(first, k) for k in range(many)])
                self.assertEqual(told, sorted(set(told)))

    def test_just_to_the_last_day(self):
        told = due_days(day_of(2000, 1, 27), ALL_MONTHS + 1)
        self.assertEqual(len(told), ALL_MONTHS + 1)
        self.assertEqual(told[-1], LAST_DAY)
        self.assertEqual(due_days(day_of(4737, 10, 27), 2), [day_of(4737, 10, 27), LAST_DAY])

    def test_behind_the_last_day(self):
        assert_refused(self, NoDay, due_days, LAST_DAY, 2)
        assert_refused(self, NoDay, due_days, day_of(4737, 10, 28), 2)
        assert_refused(self, NoDay, due_days, day_of(4737, 10, 31), 2)
        assert_refused(self, NoDay, due_days, day_of(4737, 9, 28), 3)
        assert_refused(self, NoDay, due_days, day_of(2000, 1, 28), ALL_MONTHS + 1)
        self.assertEqual(len(due_days(day_of(2000, 1, 28), ALL_MONTHS)), ALL_MONTHS)

    def test_however_many(self):
        for first in (0, 30, LAST_DAY):
            for many in (ALL_MONTHS + 2, 10 ** 9, FAR, FAR ** 100):
                assert_refused(self, NoDay, due_days, first, many)

    def test_the_list_is_the_askers_own(self):
        for many in (0, 3):
            told = due_days(30, many)
            kept = list(told)
            other = due_days(30, many)
            told.append("mine")
            self.assertEqual(other, kept)
            told.clear()
            self.assertEqual(other, kept)
            self.assertEqual(due_days(30, many), kept)

    def test_kinds_of_what_is_told(self):
        told = due_days(30, 3)
        self.assertIs(type(told), list)
        self.assertEqual([type(day) for day in told], [int, int, int])


class MonthsBetween(unittest.TestCase):
    def assert_greatest(self, one, other):
        """Just what [13] says: so many months later is not behind the other, one more is."""
        many = months_between(one, other)
        self.assertIs(type(many), int)
        self.assertGreaterEqual(many, 0)
        self.assertLessEqual(later(one, many), other)
        behind = later_or_none(one, many + 1)
        if behind is not None:
            self.assertGreater(behind, other)

    def test_a_day_and_itself(self):
        for day in some_days():
            self.assertEqual(months_between(day, day), 0)

    def test_just_so_many_months_a_day_less_and_a_day_more(self):
        for one in some_days():
            for many in (1, 2, 11, 12, 13, 48, 360, 1200):
                other = later_or_none(one, many)
                if other is None:
                    continue
                self.assertEqual(months_between(one, other), many, (one, many))
                self.assertEqual(months_between(one, other - 1), many - 1, (one, many))
                if other < LAST_DAY:
                    self.assertEqual(months_between(one, other + 1), many, (one, many))

    def test_from_the_ends_of_months(self):
        rows = [((2001, 1, 31), (2001, 2, 27), 0), ((2001, 1, 31), (2001, 2, 28), 1),
                ((2001, 1, 31), (2001, 3, 30), 1), ((2001, 1, 31), (2001, 3, 31), 2),
                ((2000, 1, 31), (2000, 2, 28), 0), ((2000, 1, 31), (2000, 2, 29), 1),
                ((2000, 2, 29), (2001, 2, 27), 11), ((2000, 2, 29), (2001, 2, 28), 12),
                ((2001, 2, 28), (2001, 3, 27), 0), ((2001, 2, 28), (2001, 3, 28), 1),
                ((2001, 2, 28), (2001, 3, 31), 1), ((2001, 4, 30), (2001, 5, 29), 0),
                ((2001, 4, 30), (2001, 5, 30), 1), ((2001, 12, 31), (2002, 1, 30), 0)]
        for one, other, many in rows:
            self.assertEqual(months_between(day_of(*one), day_of(*other)), many, (one, other))

    def test_every_pair_of_some_years(self):
        for one in range(20, 430, 3):
            for other in range(one, one + 420):
                self.assert_greatest(one, other)

    def test_pairs_from_all_over(self):
        for one in range(0, LAST_DAY + 1, 9973):
            for other in range(one, LAST_DAY + 1, 10007):
                self.assert_greatest(one, other)

    def test_up_to_the_last_day(self):
        rows = [((4737, 10, 26), 1), ((4737, 10, 27), 1), ((4737, 10, 28), 0), ((4737, 10, 29), 0),
                ((4737, 10, 30), 0), ((4737, 10, 31), 0), ((4737, 11, 1), 0), ((4737, 11, 27), 0),
                ((4737, 9, 30), 1), ((4736, 11, 27), 12), ((4736, 11, 28), 11),
                ((2000, 1, 27), ALL_MONTHS), ((2000, 1, 28), ALL_MONTHS - 1), ((2000, 1, 1), ALL_MONTHS)]
        for one, many in rows:
            self.assertEqual(months_between(day_of(*one), LAST_DAY), many, one)

    def test_the_last_days(self):
        for one in range(LAST_DAY - 130, LAST_DAY + 1):
            for other in range(one, LAST_DAY + 1):
                self.assert_greatest(one, other)


if __name__ == "__main__":
    unittest.main()
