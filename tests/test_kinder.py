import itertools
import random
import unittest

from loanroll.accounts import account, owed
from loanroll.books import Book
from loanroll.counts import Count, count_named
from loanroll.days import day_of
from loanroll.entries import Due, Fee, Late, Out, Pay, Rate, Still, Turn, entry_of
from loanroll.kinder import gap_at, is_kinder
from loanroll.leasts import least_even, least_once
from tests.refusals import END, LAST, WORDS, DayByDay, rows_of, some_days, some_entries, told_by

NAMES = ("plain", "bank", "thirty", "exact")
# What stands by itself below is compared beside these, so that nothing hangs on an empty book.
BESIDE = [Out(10, 10000), Out(40, 500), Rate(0, 375), Late(5, 800), Pay(30, 200), Pay(60, 300), Fee(20, 15),
          Fee(50, -5), Due(30, 400), Due(45, 100), Turn(70), Still(80, 90)]


def book_of(entries, grace=3):
    return Book(Count(), grace, entries)


def beside(more):
    return book_of(BESIDE + list(more))


class ByWords:
    """A book gone through day by day, with what [71] asks of each day."""

    def __init__(self, book):
        self.name = book.count().name()
        self.walk = DayByDay(book.count(), book.grace(), rows_of(book.entries()))

    def total(self, word, day):
        return sum(row[2] for row in self.walk.rows if row[0] == word and row[1] <= day)

    def late_dues(self, day):
        return sum(amount for fell, amount in self.walk.dues if fell <= day - self.walk.grace)

    def charging(self, word, day):
        return 0 if day in self.walk.still else self.walk.rate(word, day)


def is_kinder_on(one, other, day):
    return (sum(one.walk.amounts("out", day)) == sum(other.walk.amounts("out", day))
            and one.total("pay", day) >= other.total("pay", day)
            and one.total("fee", day) <= other.total("fee", day)
            and one.late_dues(day) <= other.late_dues(day)
            and one.charging("rate", day) <= other.charging("rate", day)
            and one.charging("late", day) <= other.charging("late", day)
            and (("turn", day) not in one.walk.rows or ("turn", day) in other.walk.rows))


def is_kinder_by_words(one, other, days):
    first, second = ByWords(one), ByWords(other)
    return first.name == second.name and all(is_kinder_on(first, second, day) for day in days)


class OneThing(unittest.TestCase):
    def assert_kinder(self, one, other):
        """The one is kinder than the other, and not the other way round."""
        self.assertIs(is_kinder(one, other), True)
        self.assertIs(is_kinder(other, one), False)

    def assert_alike(self, one, other):
        self.assertIs(is_kinder(one, other), True)
        self.assertIs(is_kinder(other, one), True)

    def assert_unlike(self, one, other):
        self.assertIs(is_kinder(one, other), False)
        self.assertIs(is_kinder(other, one), False)

    def kinder_by(self, ones, others):
        self.assert_kinder(beside(ones), beside(others))
        self.assert_kinder(book_of(ones), book_of(others))

    def alike_by(self, ones, others):
        self.assert_alike(beside(ones), beside(others))
        self.assert_alike(book_of(ones), book_of(others))

    def test_a_book_and_itself(self):
        for entries in ([], BESIDE, [Still(0, END)], [Fee(3, 5), Fee(3, -5)], [Turn(LAST)]):
            for name, grace in itertools.product(NAMES, (0, 366)):
                book = Book(count_named(name), grace, entries)
                self.assertIs(is_kinder(book, book), True)
                self.assert_alike(book, Book(count_named(name), grace, list(reversed(entries))))

    def test_a_pay(self):
        for day in (0, 25, 30, 85, 500, LAST):
            self.kinder_by([Pay(day, 1)], [])
            self.kinder_by([Pay(day, 51)], [Pay(day, 50)])
            self.alike_by([Pay(day, 20), Pay(day, 30)], [Pay(day, 50)])
        for day in (0, 25, 30, 85, 500, LAST - 1):
            self.kinder_by([Pay(day, 50)], [Pay(day + 1, 50)])
            self.kinder_by([Pay(day, 1), Pay(day + 1, 49)], [Pay(day + 1, 50)])

    def test_more_paid_but_later(self):
        for ones, others in (([Pay(31, 9999)], [Pay(30, 1)]), ([Pay(LAST, 9999)], [Pay(LAST - 1, 1)])):
            self.assert_unlike(beside(ones), beside(others))

    def test_a_fee(self):
        for day in (0, 25, 50, 85, 500, LAST):
            self.kinder_by([], [Fee(day, 1)])
            self.kinder_by([Fee(day, -1)], [])
            self.kinder_by([Fee(day, 49)], [Fee(day, 50)])
            self.kinder_by([Fee(day, -51)], [Fee(day, -50)])
            self.alike_by([Fee(day, 0)], [])
            self.alike_by([Fee(day, 7), Fee(day, -9)], [Fee(day, -2)])
        for day in (0, 25, 50, 85, 500, LAST - 1):
            self.kinder_by([Fee(day + 1, 50)], [Fee(day, 50)])
            self.kinder_by([Fee(day, -50)], [Fee(day + 1, -50)])

    def test_fees_weighed_over_the_days(self):
        self.assert_unlike(beside([Fee(100, 5), Fee(110, -50)]), beside([]))
        self.assert_unlike(beside([Fee(100, -5), Fee(110, 6)]), beside([]))
        self.assert_kinder(beside([Fee(100, -5), Fee(110, 5)]), beside([]))

    def test_pays_do_not_make_up_for_fees(self):
        self.assert_unlike(beside([Pay(100, 50), Fee(100, 1)]), beside([]))
        self.assert_unlike(beside([Pay(100, 49), Fee(100, -50)]), beside([Pay(100, 50)]))

    def test_a_due(self):
        for day in (0, 25, 30, 500, LAST - 3):
            self.kinder_by([], [Due(day, 1)])
            self.kinder_by([Due(day, 49)], [Due(day, 50)])
            self.alike_by([Due(day, 20), Due(day, 30)], [Due(day, 50)])
        for day in (0, 25, 30, 500, LAST - 4, LAST - 3):
            self.kinder_by([Due(day + 1, 50)], [Due(day, 50)])

    def test_a_due_whose_grace_ends_behind_the_last_day(self):
        for day in (LAST - 2, LAST - 1, LAST):
            self.alike_by([Due(day, 50)], [])
            self.assert_kinder(book_of([], 0), book_of([Due(day, 50)], 0))
        self.assert_alike(book_of([Due(LAST - 365, 50)], 366), book_of([], 366))
        self.assert_kinder(book_of([], 366), book_of([Due(LAST - 366, 50)], 366))

    def test_a_due_moved_by_a_day_that_stands_still(self):
        # From day 80 on all stands still; day 90 is the first that does not.
        for day in (80, 85, 89, 90):
            self.assert_alike(beside([Due(day, 50)]), beside([Due(90, 50)]))
            self.assert_kinder(beside([Due(91, 50)]), beside([Due(day, 50)]))
            self.assert_kinder(beside([Due(day, 50)]), beside([Due(79, 50)]))
        free = [Due(100, 50)]
        self.assert_kinder(book_of(free + [Still(100, 101)]), book_of(free))
        self.assert_alike(book_of(free + [Still(100, 101)]), book_of([Due(101, 50), Still(100, 101)]))
        self.assert_alike(book_of(free + [Still(99, 100)]), book_of(free))
        self.assert_alike(book_of([Due(5, 50), Still(5, END)], 0), book_of([Still(5, END)], 0))

    def test_grace(self):
        for grace in (0, 3, 100, 365):
            self.assert_kinder(book_of(BESIDE, grace + 1), book_of(BESIDE, grace))
            self.assert_alike(book_of([Out(3, 5), Pay(4, 9)], grace + 1), book_of([Out(3, 5), Pay(4, 9)], grace))
        self.assert_alike(book_of([Due(30, 5)], 3), book_of([Due(29, 5)], 4))
        self.assert_kinder(book_of([Due(30, 5)], 4), book_of([Due(29, 5)], 4))

    def test_rates(self):
        for kind in (Rate, Late):
            for day in (0, 25, 70, 500, LAST):
                self.kinder_by([kind(day, 374)], [kind(day, 375)])
                self.kinder_by([kind(day, 0)], [kind(day, 1)])
                self.alike_by([kind(day, 5), kind(day, 9)], [kind(day, 9)])
            for day in (25, 70, 500, LAST - 1):
                self.kinder_by([kind(6, 9), kind(day, 8), kind(day + 1, 9)], [kind(6, 9)])
                self.kinder_by([kind(6, 9)], [kind(6, 9), kind(day, 10), kind(day + 1, 9)])
                self.kinder_by([kind(6, 0), kind(day + 1, 10 ** 6)], [kind(6, 0), kind(day, 10 ** 6)])

    def test_a_rate_on_the_first_day_alone(self):
        for kind in (Rate, Late):
            self.assert_kinder(book_of([]), book_of([kind(0, 1), kind(1, 0)]))
            self.assert_kinder(book_of([kind(0, 4), kind(1, 5)]), book_of([kind(0, 5)]))
            self.assert_kinder(book_of([kind(0, 5), Still(0, 1)]), book_of([kind(0, 5)]))

    def test_a_rate_on_the_last_day_alone(self):
        for kind in (Rate, Late):
            self.assert_kinder(book_of([kind(0, 5)]), book_of([kind(0, 5), kind(LAST, 6)]))
            self.assert_kinder(book_of([kind(0, 5), Still(LAST, END)]), book_of([kind(0, 5)]))
            self.assert_alike(book_of([kind(LAST, 5), Still(LAST, END)]), book_of([]))

    def test_a_rate_higher_on_one_day_alone(self):
        for kind in (Rate, Late):
            ones = [kind(6, 5), kind(300, 10 ** 6), kind(301, 5)]
            self.assert_unlike(beside(ones), beside([kind(6, 6)]))

    def test_a_rate_for_a_late_rate(self):
        self.assert_unlike(beside([Rate(100, 1), Late(100, 9)]), beside([Rate(100, 2), Late(100, 8)]))

    def test_a_rate_from_the_day_on_that_is_told_already(self):
        self.assert_alike(book_of([Rate(0, 5), Rate(9, 5), Late(9, 0)]), book_of([Rate(0, 5)]))

    def test_days_that_stand_still(self):
        for day in (91, 95, 500, LAST):
            self.assert_kinder(beside([Still(day, day + 1)]), beside([]))
        self.assert_kinder(beside([Still(80, 91)]), beside([]))
        self.assert_kinder(beside([Still(79, 81)]), beside([]))
        self.assert_alike(beside([Still(80, 90)]), beside([]))
        self.assert_alike(beside([Still(82, 85), Still(84, 90)]), beside([]))
        for kind in (Rate, Late):
            self.assert_kinder(book_of([kind(0, 1), Still(3, 5)]), book_of([kind(0, 1), Still(3, 4)]))
            self.assert_kinder(book_of([kind(0, 1), Still(3, END)]), book_of([kind(0, 1), Still(3, LAST)]))

    def test_days_that_stand_still_where_nothing_charges(self):
        self.assert_alike(book_of([Still(3, 5)]), book_of([]))
        rates = [Rate(10, 5), Late(12, 5), Rate(20, 0), Late(20, 0)]
        for span in (Still(0, 10), Still(5, 6), Still(20, 21), Still(20, END)):
            self.assert_alike(book_of(rates + [span]), book_of(rates))
        for span in (Still(9, 11), Still(19, 20), Still(19, 21), Still(0, END)):
            self.assert_kinder(book_of(rates + [span]), book_of(rates))

    def test_a_day_that_weighs_nothing(self):
        # By months of 30 days the 30 January weighs nothing; whatever it weighs, its rate is compared.
        day = day_of(2023, 1, 30)
        for kind in (Rate, Late):
            with_still = Book(count_named("thirty"), 0, [kind(0, 5), Still(day, day + 1)])
            without = Book(count_named("thirty"), 0, [kind(0, 5)])
            self.assertEqual(without.count().weight(day, day + 1), 0)
            self.assert_kinder(with_still, without)
            higher = Book(count_named("thirty"), 0, [kind(0, 5), kind(day, 6), kind(day + 1, 5)])
            self.assert_kinder(without, higher)

    def test_a_rate_that_a_still_day_takes_away(self):
        self.assert_alike(book_of([Rate(0, 5), Rate(10, 0), Rate(20, 5)]), book_of([Rate(0, 5), Still(10, 20)]))
        self.assert_alike(book_of([Rate(0, 5), Rate(12, 99), Rate(15, 5), Still(10, 20)]),
                          book_of([Rate(0, 5), Still(10, 20)]))
        self.assert_unlike(book_of([Rate(0, 5), Rate(9, 0), Rate(19, 5)]), book_of([Rate(0, 5), Still(10, 20)]))

    def test_a_turn(self):
        for day in (0, 25, 69, 85, 500, LAST):
            self.kinder_by([], [Turn(day)])
            self.alike_by([Turn(day), Turn(day)], [Turn(day)])
        for day in (0, 25, 500, LAST - 1):
            self.assert_unlike(beside([Turn(day)]), beside([Turn(day + 1)]))
        self.kinder_by([Turn(9), Turn(12)], [Turn(8), Turn(9), Turn(12)])

    def test_lendings(self):
        for day in (0, 25, 40, 500, LAST):
            self.assert_unlike(beside([Out(day, 1)]), beside([]))
            self.assert_unlike(beside([Out(day, 50)]), beside([Out(day, 51)]))
            self.alike_by([Out(day, 20), Out(day, 30)], [Out(day, 50)])
            self.alike_by([Out(day, 20), Out(day, 30)], [Out(day, 40), Out(day, 10)])
        for day in (0, 25, 40, 500, LAST - 1):
            self.assert_unlike(beside([Out(day, 50)]), beside([Out(day + 1, 50)]))
        self.assert_unlike(book_of([Out(3, 5), Pay(3, 5)]), book_of([]))

    def test_counts(self):
        for one, other in itertools.product(NAMES, NAMES):
            for entries in (BESIDE, []):
                self.assertIs(is_kinder(Book(count_named(one), 3, entries), Book(count_named(other), 3, entries)),
                              one == other)
        self.assertIs(is_kinder(Book(count_named("plain"), 3, [Pay(3, 5)]), Book(count_named("bank"), 3, [])), False)

    def test_a_book_without_entries(self):
        for worse in ([Fee(3, 5)], [Due(3, 5)], [Rate(3, 5)], [Late(3, 5)], [Turn(3)]):
            self.assert_kinder(book_of([]), book_of(worse))
        for better in ([Pay(3, 5)], [Fee(3, -5)]):
            self.assert_kinder(book_of(better), book_of([]))
        self.assert_unlike(book_of([]), book_of([Out(3, 5)]))

    def test_several_things_each_for_the_better(self):
        better = [Out(10, 10000), Out(40, 500), Rate(0, 370), Late(5, 700), Pay(29, 200), Pay(60, 310), Fee(21, 15),
                  Fee(50, -6), Due(31, 400), Due(45, 90), Still(80, 95)]
        self.assert_kinder(book_of(better, 4), book_of(BESIDE, 3))
        for worse in ([Fee(999, 99)], [Rate(500, 371), Rate(600, 376)], [Due(900, 12)], [Turn(71)], [Out(60, 1)]):
            self.assert_unlike(book_of(better + worse, 4), book_of(BESIDE, 3))

    def test_full_books(self):
        entries = [Pay(2000 * place, 3) for place in range(250)] + [Rate(1900 * place, 9) for place in range(249)]
        self.assert_kinder(book_of(entries), book_of(entries + [Fee(LAST, 1)]))
        spans = [Still(2000 * place, 2000 * place + 1000) for place in range(499)]
        self.assert_kinder(book_of(spans + [Rate(0, 5)]), book_of(spans[:-1] + [Rate(0, 5)]))


def changed_a_little(chance, rows, first, days):
    """The rows with one thing otherwise: a row more, a row less, or one number of a row one more or less."""
    rows = list(rows)
    way = chance.randrange(4)
    if way == 0 or not rows:
        return rows + rows_of(some_entries(chance, 1, days, WORDS, first))
    place = chance.randrange(len(rows))
    row = rows[place]
    if way == 1:
        return rows[:place] + rows[place + 1:]
    column = 1 if row[0] == "turn" else chance.choice((1, 2))
    rows[place] = row[:column] + (row[column] + chance.choice((-1, 1)),) + row[column + 1:]
    return rows


def are_good(rows):
    """Whether all are rows that entry_of takes."""
    try:
        for row in rows:
            entry_of(row)
    except ValueError:
        return False
    return True


class DayAfterDay(unittest.TestCase):
    def compare(self, seed, first, span, many, graces):
        chance = random.Random(seed)
        seen = {True: 0, False: 0}
        for name, grace in itertools.product(NAMES, graces):
            for _ in range(many):
                rows = rows_of(some_entries(chance, chance.randrange(25), 40, WORDS, first, 1))
                others = rows
                for _ in range(chance.choice((0, 1, 1, 1, 2, 3))):
                    others = changed_a_little(chance, others, first, 40)
                if not are_good(others):
                    continue
                one = Book(count_named(name), grace, [entry_of(row) for row in rows])
                other = Book(count_named(name), max(0, grace + chance.choice((-1, 0, 0, 0, 1))),
                             [entry_of(row) for row in others])
                for pair in ((one, other), (other, one)):
                    wanted = is_kinder_by_words(*pair, span)
                    self.assertIs(is_kinder(*pair), wanted, (rows, others))
                    seen[wanted] += 1
        self.assertGreater(min(seen.values()), 30)

    def test_many_pairs(self):
        self.compare(401, 0, range(0, 75), 12, (0, 3, 20))

    def test_pairs_from_later_days_on(self):
        self.compare(402, 1080, range(1075, 1155), 8, (0, 3))

    def test_pairs_up_to_the_last_day(self):
        self.compare(403, LAST - 39, range(LAST - 45, LAST + 1), 12, (0, 3, 20))


def better_row(chance, row):
    """A row that is no worse for who owes, in one number."""
    word, day = row[:2]
    if word == "turn":
        return None
    if word == "pay":
        return chance.choice(((word, day, row[2] + chance.randrange(1, 99)), (word, max(0, day - 2), row[2])))
    if word == "fee":
        moved = day + 2 if row[2] > 0 else max(0, day - 2)
        return chance.choice(((word, day, row[2] - chance.randrange(1, 99)), (word, moved, row[2])))
    if word == "due":
        return chance.choice(((word, day, max(1, row[2] - 5)), (word, day + 2, row[2]), None))
    if word in ("rate", "late"):
        return (word, day, row[2] * chance.randrange(11) // 10)
    if word == "still":
        return (word, max(0, day - 1), row[2] + 1)
    return row


def kinder_pairs(seed, many):
    """Two books, the one kinder than the other, by one change or by several, with the chance that made them."""
    chance = random.Random(seed)
    for name in NAMES:
        for _ in range(many):
            size = chance.choice((1, 100, 1000))
            entries = [Out(0, 300 * size), Rate(0, 400 * size)]
            entries += some_entries(chance, chance.randrange(30), 60, WORDS, 0, size)
            rows = rows_of(entries)
            better = list(rows)
            for _ in range(chance.randrange(5)):
                place = chance.randrange(len(better))
                changed = better_row(chance, better[place])
                better[place:place + 1] = [] if changed is None else [changed]
            for _ in range(chance.randrange(3)):
                day = chance.randrange(70)
                better.append(chance.choice((("pay", day, chance.randrange(1, 50 * size)), ("still", day, day + 3),
                                             ("fee", day, -chance.randrange(1, 9 * size)))))
            grace = chance.choice((0, 3))
            yield (chance, Book(count_named(name), grace + chance.randrange(2), [entry_of(row) for row in better]),
                   Book(count_named(name), grace, [entry_of(row) for row in rows]))


class WhatAKinderBookOwes(unittest.TestCase):
    DAYS = list(range(0, 80)) + [365, 5000, LAST]

    def test_they_are_kinder(self):
        seen = {True: 0, False: 0}
        for chance, one, other in kinder_pairs(411, 20):
            self.assertIs(is_kinder(one, other), True)
            self.assertIs(is_kinder_by_words(one, other, range(0, 85)), True)
            seen[is_kinder(other, one)] += 1
        self.assertGreater(seen[False], seen[True])

    def test_principal_units_and_what_is_owed(self):
        less = 0
        for chance, one, other in kinder_pairs(412, 12):
            unit = one.count().unit()
            for day in self.DAYS:
                gap = gap_at(one, other, day)
                first, second = account(one, day), account(other, day)
                self.assertGreaterEqual(gap, 0)
                self.assertLessEqual(first.principal(), second.principal())
                self.assertLessEqual(first.units(), second.units() - gap * unit)
                self.assertLessEqual(owed(one, day), owed(other, day) - gap)
                less += first.units() < second.units() - gap * unit
        self.assertGreater(less, 200)

    def test_the_least_sums_are_no_greater(self):
        less = 0
        for chance, one, other in kinder_pairs(413, 12):
            days = some_days(chance, chance.choice((1, 2, 5, 12)), 0, 90)
            self.assertLessEqual(least_even(one, days), least_even(other, days))
            self.assertLessEqual(least_once(one, days[0], days[-1]), least_once(other, days[0], days[-1]))
            less += least_even(one, days) < least_even(other, days)
        self.assertGreater(less, 10)

    def test_one_kinder_than_one_that_is_kinder(self):
        for chance, one, other in kinder_pairs(414, 5):
            more = one.with_more([Pay(20, 5), Fee(30, -5)])
            self.assertIs(is_kinder(more, one), True)
            self.assertIs(is_kinder(more, other), True)
            self.assertIs(is_kinder(other, more), False)


class GapAt(unittest.TestCase):
    def test_by_hand(self):
        one = book_of([Pay(10, 50), Pay(20, 7), Fee(15, 4), Out(3, 999)])
        other = book_of([Pay(12, 60), Fee(15, 3), Fee(30, 9), Fee(40, -6), Due(11, 5), Turn(10), Rate(1, 5)])
        rows = [(0, 0), (9, 0), (10, 50), (11, 50), (12, -10), (14, -10), (15, -11), (20, -4), (30, 5), (39, 5),
                (40, -1), (LAST, -1)]
        for day, gap in rows:
            self.assertEqual(gap_at(one, other, day), gap)
            self.assertEqual(gap_at(other, one, day), -gap)
            self.assertEqual((gap_at(one, one, day), gap_at(other, other, day)), (0, 0))
            self.assertIs(type(gap_at(one, other, day)), int)

    def test_the_day_is_included(self):
        for entry, gap in ((Pay(LAST, 5), 5), (Fee(LAST, 5), -5), (Fee(LAST, -5), 5)):
            self.assertEqual([gap_at(book_of([entry]), book_of([]), day) for day in (LAST - 1, LAST)], [0, gap])
        for entry, gap in ((Pay(0, 5), 5), (Fee(0, 5), -5)):
            self.assertEqual(gap_at(book_of([entry]), book_of([]), 0), gap)

    def test_other_entries_do_not_matter(self):
        more = [Out(3, 9), Due(3, 9), Turn(3), Rate(3, 9), Late(3, 9), Still(3, 9)]
        for day in (0, 3, 9, LAST):
            self.assertEqual(gap_at(book_of(more, 3), book_of([], 0), day), 0)
            self.assertEqual(gap_at(book_of(more + [Pay(2, 5)]), book_of(more), day), 5 if day >= 2 else 0)

    def test_any_two_books(self):
        chance = random.Random(421)
        below = 0
        for one_name, other_name in itertools.product(NAMES, NAMES):
            one = Book(count_named(one_name), 3, some_entries(chance, 30, 60, WORDS, 10, 100))
            other = Book(count_named(other_name), 0, some_entries(chance, 30, 60, WORDS, 10, 100))
            first, second = ByWords(one), ByWords(other)
            for day in list(range(0, 80)) + [LAST]:
                gap = (first.total("pay", day) - second.total("pay", day)
                       + second.total("fee", day) - first.total("fee", day))
                self.assertEqual(gap_at(one, other, day), gap)
                below += gap < 0
        self.assertGreater(below, 50)


class Kept(unittest.TestCase):
    def test_the_books_stay(self):
        for chance, one, other in kinder_pairs(431, 3):
            kept = (told_by(one), told_by(other))
            for _ in range(2):
                self.assertIs(is_kinder(one, other), True)
                is_kinder(other, one)
                gap_at(one, other, 30)
            self.assertEqual((told_by(one), told_by(other)), kept)

    def test_the_list_of_entries_changed_later(self):
        entries = list(BESIDE)
        one = book_of(entries)
        entries.append(Fee(3, 5))
        self.assertIs(is_kinder(one, book_of(entries)), True)
        self.assertIs(is_kinder(book_of(entries), one), False)
        self.assertEqual(gap_at(one, book_of(entries), 9), 5)


if __name__ == "__main__":
    unittest.main()
