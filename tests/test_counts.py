import calendar
import datetime
import unittest

from loanroll.counts import Bank, Count, Exact, Thirty, count_named
from loanroll.days import LAST_DAY, date_of, day_of
from loanroll.errors import NoCount
from tests.refusals import assert_refused, other_things

DAY_0 = datetime.date(2000, 1, 1).toordinal()
END = LAST_DAY + 1
NAMES = ["plain", "bank", "thirty", "exact"]
CLASSES = [Count, Bank, Thirty, Exact]


def weighs_one(date):
    return 1


def weighs_thirty(date):
    """Just what [14] says of one day, by its date and the next one's."""
    behind = date + datetime.timedelta(days=1)
    if behind.day == 31:
        return 0
    if (date.month, date.day) == (2, 28) and (behind.month, behind.day) == (3, 1):
        return 3
    if (date.month, date.day) == (2, 29):
        return 2
    return 1


def weighs_exact(date):
    return 365 if calendar.isleap(date.year) else 366


WEIGHS = [weighs_one, weighs_one, weighs_thirty, weighs_exact]


def weigh_one_by_one(weighs, a, b):
    return sum(weighs(datetime.date.fromordinal(DAY_0 + day)) for day in range(a, b))


def some_days():
    """Some whole years, then the turns of months and of Februaries from all over, and the last days."""
    days = set(range(0, 1900)) | set(range(LAST_DAY - 800, END))
    for year in list(range(2004, 2110)) + [2199, 2200, 2300, 2399, 2400, 2500, 3000, 4000, 4100, 4735, 4736]:
        for month in range(1, 13):
            first = day_of(year, month, 1)
            days.update(range(max(first - 4, 0), first + 3))
            days.add(first + 14)
    return sorted(days)


class Classes(unittest.TestCase):
    def test_three_stand_right_under_count(self):
        self.assertEqual(Count.__bases__, (object,))
        for kind in (Bank, Thirty, Exact):
            self.assertEqual(kind.__bases__, (Count,))

    def test_none_of_the_three_stands_under_another_one(self):
        for one in (Bank, Thirty, Exact):
            for other in (Bank, Thirty, Exact):
                self.assertEqual(issubclass(one, other), one is other)

    def test_names(self):
        self.assertEqual([kind().name() for kind in CLASSES], NAMES)
        self.assertEqual([type(kind().name()) for kind in CLASSES], [str] * 4)

    def test_years(self):
        self.assertEqual([kind().year() for kind in CLASSES], [365, 360, 360, 133590])

    def test_units(self):
        self.assertEqual([kind().unit() for kind in CLASSES], [3650000, 3600000, 3600000, 1335900000])
        for kind in CLASSES:
            self.assertEqual(kind().unit(), 10000 * kind().year())

    def test_whole_numbers_are_told(self):
        for kind in CLASSES:
            count = kind()
            told = [count.year(), count.unit()]
            for day in (0, 29, 30, 59, 60, 424, 425, 999999, 1000000):
                told += [count.upto(day), count.weight(0, day), count.weight(day, day), count.weight(day, 1000000)]
            self.assertEqual([type(number) for number in told], [int] * len(told))

    def test_asking_changes_no_count(self):
        for kind in CLASSES:
            count = kind()
            kept = (count.name(), count.year(), count.unit(), count.upto(425), count.weight(30, 425))
            for day in (999999, 0, 59, 1000000, 425):
                count.upto(day)
                count.weight(day, 1000000)
            again = (count.name(), count.year(), count.unit(), count.upto(425), count.weight(30, 425))
            self.assertEqual(again, kept)
            self.assertEqual(vars(count), vars(kind()))


class SingleDays(unittest.TestCase):
    def assert_weighs(self, count, date, weight):
        day = day_of(*date)
        self.assertEqual(count.weight(day, day + 1), weight, (count.name(), date))

    def test_plain_and_bank(self):
        for count in (Count(), Bank()):
            for date in ((2000, 1, 1), (2000, 1, 30), (2000, 2, 28), (2000, 2, 29), (2001, 2, 28), (4737, 11, 27)):
                self.assert_weighs(count, date, 1)

    def test_thirty_ahead_of_a_31st(self):
        for year in (2000, 2001, 2100, 2400, 4736):
            for month in (1, 3, 5, 7, 8, 10, 12):
                self.assert_weighs(Thirty(), (year, month, 29), 1)
                self.assert_weighs(Thirty(), (year, month, 30), 0)
                self.assert_weighs(Thirty(), (year, month, 31), 1)

    def test_thirty_in_months_of_thirty_days(self):
        for year in (2000, 2001, 2100, 2400, 4736):
            for month in (4, 6, 9, 11):
                for number in (1, 28, 29, 30):
                    self.assert_weighs(Thirty(), (year, month, number), 1)

    def test_thirty_in_february(self):
        for year in (2001, 2003, 2100, 2200, 2300, 2500, 4737):
            self.assert_weighs(Thirty(), (year, 2, 27), 1)
            self.assert_weighs(Thirty(), (year, 2, 28), 3)
            self.assert_weighs(Thirty(), (year, 3, 1), 1)
        for year in (2000, 2004, 2096, 2400, 4736):
            self.assert_weighs(Thirty(), (year, 2, 27), 1)
            self.assert_weighs(Thirty(), (year, 2, 28), 1)
            self.assert_weighs(Thirty(), (year, 2, 29), 2)
            self.assert_weighs(Thirty(), (year, 3, 1), 1)

    def test_exact(self):
        for number in ((1, 1), (1, 30), (2, 28), (3, 1), (6, 30), (12, 30), (12, 31)):
            for year in (2000, 2004, 2096, 2400, 4736):
                self.assert_weighs(Exact(), (year,) + number, 365)
            for year in (2001, 2003, 2100, 2200, 2300, 4735):
                self.assert_weighs(Exact(), (year,) + number, 366)
        self.assert_weighs(Exact(), (2000, 2, 29), 365)

    def test_the_last_day(self):
        told = [kind().weight(LAST_DAY, END) for kind in CLASSES]
        self.assertEqual(told, [1, 1, 1, 366])

    def test_many_days(self):
        for kind, weighs in zip(CLASSES, WEIGHS):
            count = kind()
            for day in some_days():
                date = datetime.date.fromordinal(DAY_0 + day)
                if count.weight(day, day + 1) != weighs(date):
                    self.fail(f"{count.name()} weighs {date} by {count.weight(day, day + 1)}")


class ManyDays(unittest.TestCase):
    def test_weights_are_sums_over_the_days(self):
        ends = [0, 1, 29, 30, 31, 58, 59, 60, 61, 365, 366, 423, 424, 425, 1000, 36524, 36600]
        for kind, weighs in zip(CLASSES, WEIGHS):
            for a in ends:
                for b in ends:
                    if a <= b <= a + 1100:
                        told = kind().weight(a, b)
                        self.assertEqual(told, weigh_one_by_one(weighs, a, b), (kind, a, b))

    def test_weights_far_behind_are_sums_over_the_days(self):
        for kind, weighs in zip(CLASSES, WEIGHS):
            for a in (36000, 146000, 730000, END - 1500, END - 1, END):
                for many in (0, 1, 31, 366, 1500):
                    b = min(a + many, END)
                    self.assertEqual(kind().weight(a, b), weigh_one_by_one(weighs, a, b), (kind, a, b))

    def test_all_days(self):
        whole = [1000000, 1000000, 360 * 2737 + 300 + 27, 133590 * 2737 + 366 * 331]
        self.assertEqual([kind().weight(0, END) for kind in CLASSES], whole)
        for kind, weighs, told in zip(CLASSES, WEIGHS, whole):
            self.assertEqual(weigh_one_by_one(weighs, 0, END), told)

    def test_no_days_weigh_nothing(self):
        for kind in CLASSES:
            for day in (0, 1, 29, 30, 58, 59, 60, 366, 424, 425, 500000, LAST_DAY, END):
                self.assertEqual(kind().weight(day, day), 0)

    def test_weights_add(self):
        days = [0, 29, 30, 31, 58, 59, 60, 424, 425, 36583, 36584, 500000, 999998, LAST_DAY, END]
        for kind in CLASSES:
            count = kind()
            for a in days:
                for c in [day for day in days if day >= a]:
                    for b in [day for day in days if day >= c]:
                        self.assertEqual(count.weight(a, c) + count.weight(c, b), count.weight(a, b))

    def test_a_weight_is_what_upto_tells_of_its_ends(self):
        days = [0, 1, 30, 59, 60, 365, 366, 424, 425, 36584, 500000, LAST_DAY, END]
        for kind in CLASSES:
            one, other = kind(), kind()
            far_first = {day: one.upto(day) for day in reversed(days)}
            for a in days:
                for b in [day for day in days if day >= a]:
                    told = one.weight(a, b)
                    self.assertEqual(told, one.upto(b) - one.upto(a))
                    self.assertEqual(told, far_first[b] - far_first[a])
                    self.assertEqual(other.upto(b) - other.upto(a), other.weight(a, b))
                    self.assertEqual(told, other.weight(a, b))

    def test_years_of_twelve_months(self):
        for year in range(2000, 4737):
            a, b = day_of(year, 1, 1), day_of(year + 1, 1, 1)
            self.assertEqual(Thirty().weight(a, b), 360, year)
            self.assertEqual(Exact().weight(a, b), 365 * 366, year)
            self.assertEqual(Count().weight(a, b), 366 if calendar.isleap(year) else 365, year)
            self.assertEqual(Bank().weight(a, b), 366 if calendar.isleap(year) else 365, year)

    def test_every_month_is_thirty(self):
        for year in (2000, 2001, 2100, 2400, 4736):
            for month in range(1, 12):
                a, b = day_of(year, month, 1), day_of(year, month + 1, 1)
                self.assertEqual(Thirty().weight(a, b), 30, (year, month))
            self.assertEqual(Thirty().weight(day_of(year, 12, 1), day_of(year, 12, 31) + 1), 30)

    def test_four_hundred_years(self):
        told = [kind().weight(0, day_of(2400, 1, 1)) for kind in CLASSES]
        self.assertEqual(told, [146097, 146097, 400 * 360, 400 * 365 * 366])
        for day in (17, 30, 59, 365, 36584, 500000):
            date = date_of(day)
            behind = day_of(date[0] + 400, date[1], date[2])
            self.assertEqual([kind().weight(day, behind) for kind in CLASSES], told)


class Named(unittest.TestCase):
    def test_of_just_that_class(self):
        for name, kind in zip(NAMES, CLASSES):
            count = count_named(name)
            self.assertIs(type(count), kind)
            self.assertEqual(count.name(), name)

    def test_of_names_that_are_put_together(self):
        for name, kind in zip(NAMES, CLASSES):
            self.assertIs(type(count_named("".join(list(name)))), kind)

    def test_a_new_one_each_time(self):
        for name in NAMES:
            counts = [count_named(name) for _ in range(3)]
            self.assertEqual(len({id(count) for count in counts}), 3)

    def test_texts_that_are_no_name(self):
        texts = ["", " ", "Count", "count", "none", "None", "365", "plain bank", "plainbank", "plain,bank", "\n"]
        for name in NAMES:
            texts += [name.upper(), name.capitalize(), name[:-1] + name[-1].upper(), name[::-1]]
            texts += [" " + name, name + " ", name + "\n", "\t" + name, name + name, name + "\0", name + " " + name]
            for place in range(len(name)):
                texts += [name[:place] + name[place + 1:], name[:place] + "z" + name[place + 1:]]
                texts += [name[:place] + letter + name[place:] for letter in "xe "]
        for text in texts:
            with self.subTest(text=text):
                assert_refused(self, NoCount, count_named, text)

    def test_things_that_are_no_text(self):
        things = [0, 1, -1, 360, 365, 10 ** 60, ["plain"], ("plain",), {"plain": "plain"}, {"plain"}, b"plain",
                  Count(), Exact(), Count, Bank]
        for place, thing in enumerate(things + other_things()):
            with self.subTest(place=place):
                assert_refused(self, NoCount, count_named, thing)

    def test_a_refusal_changes_no_later_answer(self):
        assert_refused(self, NoCount, count_named, "Plain")
        self.assertIs(type(count_named("plain")), Count)
        assert_refused(self, NoCount, count_named, "Plain")

    def test_nothing_handed_in_is_changed(self):
        for thing, kept in ((["plain"], ["plain"]), ({"a": ["bank"]}, {"a": ["bank"]})):
            assert_refused(self, NoCount, count_named, thing)
            self.assertEqual(thing, kept)


if __name__ == "__main__":
    unittest.main()
