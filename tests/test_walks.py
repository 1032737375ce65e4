import itertools
import random
import unittest

from loanroll.accounts import account, owed
from loanroll.arrears import behind
from loanroll.books import Book
from loanroll.counts import Count, count_named
from loanroll.entries import Due, Entry, Fee, Late, Out, Pay, Rate, Still, Turn
from loanroll.errors import NoDays, TooMany
from loanroll.plans import Even, Parts, Plan, Steps
from loanroll.walks import as_dues, as_pays, planned
from tests.refusals import (LAST, WORDS, DayByDay, asked_by_words, assert_refused, lists_of_no_days, rows_of, some_days,
                            some_entries, told_by)

NAMES = ("plain", "bank", "thirty", "exact")
KINDS = ("plain", "even", "parts", "steps")
# By a rate of so many, 10000 cents are charged one cent a day where a year weighs 365.
CENT_A_DAY = 365


def book_of(entries, grace=0):
    return Book(Count(), grace, entries)


def loan(more=()):
    return book_of([Out(0, 10000), Rate(0, CENT_A_DAY)] + list(more))


def plan_of(kind, given):
    if kind == "plain":
        return Plan()
    if kind == "parts":
        return Parts()
    return Even(given) if kind == "even" else Steps(given)


def some_given(chance, kind, size, many):
    """An even sum, or a list of sums, some lists shorter than the days and some longer."""
    if kind == "even":
        return chance.randrange(20 * size)
    return [chance.randrange(30 * size) for _ in range(chance.randrange(many + 3))]


def by_the_words(book, days, kind, given):
    """What [51] says, gone through day by day."""
    unit = book.count().unit()
    told = []

    def ask(day, principal, units):
        if day not in days:
            return 0
        amount = asked_by_words(kind, given, principal, units // unit, len(days) - days.index(day))
        told.append((day, amount))
        return amount

    walk = DayByDay(book.count(), book.grace(), [entry.row() for entry in book.entries()])
    first = min([entry.day for entry in book.entries()] + days)
    walk.accounts(days[-1], first, ask)
    return told


def planned_books(seed, many, words=WORDS):
    """Books by chance, each with days and what one of the four plans asks there."""
    chance = random.Random(seed)
    for name, grace, kind in itertools.product(NAMES, (0, 3), KINDS):
        for _ in range(many):
            size = chance.choice((1, 100, 100000))
            first = chance.choice((0, 50, 1080))
            entries = some_entries(chance, chance.randrange(50), 60, words, first, size)
            book = Book(count_named(name), grace, entries)
            days = some_days(chance, chance.choice((1, 2, 5, 12, 40)), first, 90)
            given = some_given(chance, kind, size, len(days))
            yield book, days, kind, given


class PlannedByHand(unittest.TestCase):
    def test_over_one_day_all_is_asked(self):
        for plan in (Plan(), Even(0), Even(5), Parts(), Steps([]), Steps([7])):
            self.assertEqual(planned(loan(), [30], plan), [(30, 10030)])

    def test_plain(self):
        self.assertEqual(planned(loan(), [30, 60, 70], Plan()), [(30, 30), (60, 30), (70, 10010)])

    def test_even(self):
        self.assertEqual(planned(loan(), [30, 60], Even(30)), [(30, 30), (60, 10030)])
        self.assertEqual(planned(loan(), [30, 60], Even(10030)), [(30, 10030), (60, 0)])
        self.assertEqual(planned(loan(), [30, 60], Even(10 ** 12)), [(30, 10030), (60, 0)])
        self.assertEqual(planned(loan(), [30, 60, 61], Even(5030)), [(30, 5030), (60, 5015), (61, 0)])
        self.assertEqual(planned(loan(), [30, 60], Even(0)), [(30, 0), (60, 10060)])

    def test_parts(self):
        self.assertEqual(planned(loan(), [30, 60], Parts()), [(30, 5030), (60, 5015)])
        self.assertEqual(planned(loan(), [0, 10, 20, 30], Parts()), [(0, 2500), (10, 2507), (20, 2505), (30, 2503)])

    def test_steps(self):
        self.assertEqual(planned(loan(), [30, 60, 70], Steps([1030, 9])), [(30, 0), (60, 1030), (70, 9039)])
        self.assertEqual(planned(loan(), [30, 60], Steps([7, 8, 30, 99])), [(30, 30), (60, 10030)])
        self.assertEqual(planned(loan(), [30, 60], Steps([])), [(30, 0), (60, 10060)])

    def test_ahead_of_all_deeds(self):
        for plan in (Plan(), Even(5), Parts(), Steps([1, 2, 3])):
            book = book_of([Out(100, 10000)])
            self.assertEqual(planned(book, [0, 50, 99], plan), [(0, 0), (50, 0), (99, 0)])
            self.assertEqual(planned(book, [50, 100], plan), [(50, 0), (100, 10000)])

    def test_of_a_book_without_entries(self):
        for plan in (Plan(), Even(5), Parts(), Steps([1, 2, 3])):
            self.assertEqual(planned(book_of([]), [3, 4], plan), [(3, 0), (4, 0)])

    def test_behind_all_deeds_of_the_day(self):
        more = [Out(30, 1000), Fee(30, 20), Pay(30, 40)]
        self.assertEqual(planned(loan(more), [30, 31], Plan()), [(30, 10), (31, 11001)])
        turned = [Turn(30), Fee(30, 20)]
        self.assertEqual(planned(loan(turned), [30, 31], Plan()), [(30, 0), (31, 10051)])
        self.assertEqual(planned(loan([Pay(30, 10030)]), [30, 31], Even(5)), [(30, 0), (31, 0)])
        self.assertEqual(planned(loan([Pay(30, 10000)]), [30, 31], Even(50)), [(30, 30), (31, 0)])

    def test_days_of_the_books_own_between(self):
        more = [Out(40, 10000), Pay(50, 5)]
        self.assertEqual(planned(loan(more), [30, 60, 61], Plan()), [(30, 30), (60, 45), (61, 20002)])

    def test_a_credit(self):
        self.assertEqual(planned(loan([Pay(10, 20000)]), [30, 60], Even(5)), [(30, 0), (60, 0)])
        later = loan([Pay(10, 10510), Out(40, 600)])
        self.assertEqual(planned(later, [30, 40, 41], Even(5)), [(30, 0), (40, 5), (41, 95)])

    def test_what_was_asked_lowers_what_is_behind(self):
        book = book_of([Out(0, 100000), Late(0, 10 * CENT_A_DAY), Due(10, 10000)])
        # From day 10 on ten cents a day, until 5000 are paid on day 20; then five, and none from day 30 on.
        self.assertEqual(planned(book, [20, 30, 40], Even(5000)), [(20, 5000), (30, 5000), (40, 90150)])
        self.assertEqual(planned(book, [5, 30, 40], Even(10000)), [(5, 10000), (30, 10000), (40, 80000)])

    def test_what_was_asked_is_no_due(self):
        book = book_of([Out(0, 10000), Late(0, 10 ** 6), Rate(0, CENT_A_DAY)])
        self.assertEqual(planned(book, [30, 60], Even(0)), [(30, 0), (60, 10060)])
        self.assertEqual(planned(book, [30, 60, 90], Steps([5, 6, 7])), [(30, 5), (60, 6), (90, 10079)])

    def test_days_that_stand_still(self):
        book = loan([Still(30, 60)])
        self.assertEqual(planned(book, [30, 45, 60, 61], Plan()), [(30, 30), (45, 0), (60, 0), (61, 10001)])

    def test_the_first_and_the_last_day(self):
        self.assertEqual(planned(loan(), [0, LAST], Plan()), [(0, 0), (LAST, 10000 + LAST)])
        self.assertEqual(planned(loan(), [LAST], Even(3)), [(LAST, 10000 + LAST)])
        self.assertEqual(planned(book_of([Out(LAST, 5)]), [LAST - 1, LAST], Even(3)), [(LAST - 1, 0), (LAST, 5)])

    def test_kinds_of_what_is_told(self):
        told = planned(loan(), [30, 60], Even(50))
        self.assertIs(type(told), list)
        for row in told:
            self.assertIs(type(row), tuple)
            self.assertEqual([type(number) for number in row], [int, int])


class PlannedDayByDay(unittest.TestCase):
    def test_many_books(self):
        for book, days, kind, given in planned_books(111, 4):
            self.assertEqual(planned(book, days, plan_of(kind, given)), by_the_words(book, days, kind, given))

    def test_late_rates_and_dues(self):
        words = ("out", "due", "due", "late", "pay", "rate")
        for book, days, kind, given in planned_books(112, 2, words):
            self.assertEqual(planned(book, days, plan_of(kind, given)), by_the_words(book, days, kind, given))

    def test_360_days(self):
        chance = random.Random(113)
        for name, kind in zip(NAMES, KINDS):
            entries = some_entries(chance, 60, 300, WORDS, 0, 10000) + [Out(0, 10 ** 8), Late(0, 900), Due(9, 10 ** 7)]
            book = Book(count_named(name), 3, entries)
            days = some_days(chance, 360, 0, 500)
            given = 10 ** 5 if kind == "even" else [chance.randrange(10 ** 6) for _ in range(300)]
            self.assertEqual(planned(book, days, plan_of(kind, given)), by_the_words(book, days, kind, given))

    def test_360_days_of_a_full_book(self):
        chance = random.Random(114)
        book = book_of(some_entries(chance, 140, 400, WORDS, 0, 1000), 3)
        days = list(range(0, 1080, 3))
        rows = planned(book, days, Parts())
        self.assertEqual([row[0] for row in rows], days)
        self.assertEqual(len(book.with_more(as_pays(rows)).entries()), 140 + len([row for row in rows if row[1]]))


class AsEntries(unittest.TestCase):
    ROWS = [(5, 10), (9, 0), (12, 1), (20, 10 ** 15), (LAST, 3)]

    def test_in_their_order(self):
        self.assertEqual(rows_of(as_pays(self.ROWS)),
                         [("pay", 5, 10), ("pay", 12, 1), ("pay", 20, 10 ** 15), ("pay", LAST, 3)])
        self.assertEqual(rows_of(as_dues(self.ROWS)),
                         [("due", 5, 10), ("due", 12, 1), ("due", 20, 10 ** 15), ("due", LAST, 3)])
        self.assertEqual(rows_of(as_pays([(9, 1), (3, 2), (9, 3)])), [("pay", 9, 1), ("pay", 3, 2), ("pay", 9, 3)])
        self.assertEqual(rows_of(as_dues([(9, 1), (3, 2), (9, 3)])), [("due", 9, 1), ("due", 3, 2), ("due", 9, 3)])

    def test_of_no_rows(self):
        self.assertEqual((as_pays([]), as_dues([])), ([], []))
        self.assertEqual((as_pays([(5, 0)]), as_dues([(5, 0), (6, 0)])), ([], []))

    def test_kinds_of_what_is_told(self):
        for told, kind in ((as_pays(self.ROWS), Pay), (as_dues(self.ROWS), Due)):
            self.assertIs(type(told), list)
            for entry in told:
                self.assertIs(type(entry), kind)
                self.assertIsInstance(entry, Entry)

    def test_new_entries_each_time(self):
        for told_again in (as_pays, as_dues):
            one, other = told_again(self.ROWS), told_again(self.ROWS)
            self.assertIsNot(one, other)
            for first, second in zip(one, other):
                self.assertIsNot(first, second)
            one.clear()
            self.assertEqual(len(other), 4)
            self.assertEqual(len(told_again(self.ROWS)), 4)

    def test_the_rows_stay(self):
        rows = list(self.ROWS)
        as_pays(rows)
        as_dues(rows)
        self.assertEqual(rows, self.ROWS)

    def test_the_rows_changed_later(self):
        rows = [(5, 10), (9, 3)]
        pays, dues = as_pays(rows), as_dues(rows)
        rows.clear()
        self.assertEqual((rows_of(pays), rows_of(dues)),
                         ([("pay", 5, 10), ("pay", 9, 3)], [("due", 5, 10), ("due", 9, 3)]))


class WhatPlansLeave(unittest.TestCase):
    def test_nothing_is_owed_on_the_last_day(self):
        above = 0
        for book, days, kind, given in planned_books(121, 4):
            rows = planned(book, days, plan_of(kind, given))
            paid = book.with_more(as_pays(rows))
            self.assertLessEqual(owed(paid, days[-1]), 0)
            if rows[-1][1] > 0:
                above += 1
                self.assertEqual(owed(paid, days[-1]), 0)
        self.assertGreater(above, 20)

    def test_no_amount_is_more_than_is_owed_nor_below_0(self):
        for book, days, kind, given in planned_books(122, 3):
            rows = planned(book, days, plan_of(kind, given))
            for place, (day, amount) in enumerate(rows):
                much = owed(book.with_more(as_pays(rows[:place])), day)
                self.assertTrue(0 <= amount <= max(0, much))

    def test_on_no_day_more_is_behind(self):
        for book, days, kind, given in planned_books(123, 3):
            rows = planned(book, days, plan_of(kind, given))
            both = book.with_more(as_pays(rows)).with_more(as_dues(rows))
            for day in itertools.chain(range(0, 160), range(1075, 1190), (LAST,)):
                self.assertLessEqual(behind(both, day), behind(book, day))

    def test_asked_as_dues_too_the_plan_asks_the_same(self):
        # What is asked on a day and paid on it is never behind: the late rate charges no more.
        chance = random.Random(124)
        for grace, kind in itertools.product((0, 3), KINDS):
            book = book_of([Out(0, 10 ** 6), Rate(0, 700), Late(0, 900)], grace)
            days = some_days(chance, 12, 0, 400)
            rows = planned(book, days, plan_of(kind, some_given(chance, kind, 1000, 12)))
            paid = book.with_more(as_pays(rows))
            both = paid.with_more(as_dues(rows))
            for day in range(0, 420, 3):
                self.assertEqual((behind(both, day), owed(both, day)), (0, owed(paid, day)))


def early_books(seed, words):
    """Books whose lendings, fees, turns and pays lie on the first of the days or ahead."""
    chance = random.Random(seed)
    for name, grace in itertools.product(NAMES, (0, 3)):
        for many in (2, 3, 7, 12, 40):
            first = chance.choice((0, 40, 1090))
            entries = some_entries(chance, 12, 30, ("out", "out", "out", "fee", "turn", "pay"), first, 1000)
            entries += some_entries(chance, 12, 300, words, first, 1000)
            days = [first + 29] + some_days(chance, many - 1, first + 30, 300)
            yield chance, Book(count_named(name), grace, entries), days


class Shapes(unittest.TestCase):
    WORDS = ("rate", "late", "due", "still")

    def test_an_even_plan(self):
        less = 0
        for chance, book, days in early_books(131, self.WORDS):
            for amount in (1, chance.randrange(1, 10 ** 4), chance.randrange(1, 10 ** 5), 10 ** 12):
                rows = planned(book, days, Even(amount))
                asked = [row[1] for row in rows[:-1]]
                while asked and asked[0] == amount:
                    asked.pop(0)
                if asked and 0 < asked[0] < amount:
                    asked.pop(0)
                    less += 1
                self.assertEqual(asked, [0] * len(asked))
                self.assertEqual(rows[-1][1], max(0, owed(book.with_more(as_pays(rows[:-1])), days[-1])))
        self.assertGreater(less, 20)

    def test_parts_of_the_principal(self):
        above = 0
        for chance, book, days in early_books(132, self.WORDS):
            rows = planned(book, days, Parts())
            parts = []
            for place, day in enumerate(days):
                ahead = account(book.with_more(as_pays(rows[:place])), day).principal()
                parts.append(ahead - account(book.with_more(as_pays(rows[:place + 1])), day).principal())
            for one, other in zip(parts, parts[1:]):
                self.assertIn(one - other, (0, 1))
            above += parts[0] > 0
            self.assertEqual(sum(parts), account(book, days[0]).principal())
        self.assertGreater(above, 20)


class Refused(unittest.TestCase):
    def test_whatever_is_no_list_of_days(self):
        for book in (book_of([]), loan(), book_of([Pay(3, 5)] * 500)):
            for plan in (Plan(), Steps([])):
                for days in lists_of_no_days():
                    assert_refused(self, NoDays, planned, book, days, plan)

    def test_from_one_to_360(self):
        for many in (1, 2, 359, 360):
            self.assertEqual(len(planned(loan(), list(range(many)), Even(1))), many)
        assert_refused(self, NoDays, planned, loan(), [], Even(1))
        assert_refused(self, NoDays, planned, loan(), list(range(361)), Even(1))

    def test_days_at_the_bounds(self):
        self.assertEqual(planned(book_of([]), [0, 1, LAST - 1, LAST], Plan()),
                         [(0, 0), (1, 0), (LAST - 1, 0), (LAST, 0)])

    def test_too_many(self):
        for many, days in ((500, 1), (499, 2), (141, 360), (400, 101), (500, 360)):
            for entries in ([Pay(3, 5)], [Out(3, 5)], [Rate(3, 5)], [Still(3, 5)], [Due(3, 5)]):
                book = book_of(entries * many)
                for plan in (Plan(), Even(0), Even(7), Parts(), Steps([])):
                    assert_refused(self, TooMany, planned, book, list(range(days)), plan)

    def test_500_together(self):
        for many, days in ((499, 1), (498, 2), (140, 360), (400, 100)):
            self.assertEqual(planned(book_of([Pay(3, 5)] * many), list(range(days)), Even(7)),
                             [(day, 0) for day in range(days)])
            rows = planned(book_of([Out(0, 5)] * many), list(range(days)), Even(1))
            self.assertEqual(rows, [(day, 1) for day in range(days - 1)] + [(days - 1, 5 * many - days + 1)])

    def test_no_days_comes_first(self):
        full = book_of([Pay(3, 5)] * 500)
        assert_refused(self, NoDays, planned, full, [], Plan())
        assert_refused(self, NoDays, planned, full, [5, 5], Plan())
        assert_refused(self, NoDays, planned, full, list(range(361)), Plan())
        assert_refused(self, TooMany, planned, full, [5], Plan())

    def test_what_is_refused_stays(self):
        book, days, plan = loan(), [5, 9, 7], Steps([1])
        assert_refused(self, NoDays, planned, book, days, plan)
        self.assertEqual((days, rows_of(book.entries())), ([5, 9, 7], rows_of(loan().entries())))


class Kept(unittest.TestCase):
    def test_the_book_the_days_and_the_plan_stay(self):
        for book, days, kind, given in planned_books(141, 1):
            kept, kept_days = told_by(book), list(days)
            plan = plan_of(kind, given)
            first = planned(book, days, plan)
            self.assertEqual((told_by(book), days), (kept, kept_days))
            self.assertEqual(planned(book, days, plan), first)
            self.assertEqual(planned(book, days, plan_of(kind, given)), first)

    def test_the_told_list_is_the_askers_own(self):
        book, days, plan = loan(), [30, 60, 70], Even(50)
        kept = list(planned(book, days, plan))
        told, other = planned(book, days, plan), planned(book, days, plan)
        told[0] = (30, 99)
        self.assertEqual((other, planned(book, days, plan)), (kept, kept))
        told.clear()
        self.assertEqual((other, planned(book, days, plan)), (kept, kept))
        days.clear()
        self.assertEqual(other, kept)

    def test_one_plan_for_several_books(self):
        plan = Steps([20, 30, 40])
        one, other = loan(), loan([Out(5, 10000)])
        first = planned(one, [30, 60], plan)
        planned(other, [10, 20, 30, 40, 50], plan)
        self.assertEqual(planned(one, [30, 60], plan), first)


if __name__ == "__main__":
    unittest.main()
