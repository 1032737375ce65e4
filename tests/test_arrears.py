import random
import unittest

from loanroll.arrears import asked, behind, handed, met_on, open_dues
from loanroll.books import Book
from loanroll.counts import Count
from loanroll.entries import Due, Fee, Out, Pay, Rate, Still, Turn
from tests.refusals import fallen, some_entries

END = 1000000
LAST = 999999
DAYS = (0, 1, 4, 5, 6, 7, 8, 9, 10, 20, 366, 367, 5000, LAST)


def book_of(entries, grace=0):
    return Book(Count(), grace, entries)


def paid_by(rows, day):
    return sum(row[2] for row in rows if row[0] == "pay" and row[1] <= day)


def asked_by(rows, day):
    return sum(amount for fell, amount in fallen(rows) if fell <= day)


def dues_of(rows):
    told = {}
    for day, amount in sorted(fallen(rows)):
        told[day] = told.get(day, 0) + amount
    return list(told.items())


def cent_by_cent(rows, day):
    """The open dues, each cent that was paid put to the first due that still lacks one."""
    lacking = [[fell, amount, amount] for fell, amount in dues_of(rows)]
    for _ in range(paid_by(rows, day)):
        for due in lacking:
            if due[2] > 0:
                due[2] -= 1
                break
    return [tuple(due) for due in lacking if due[0] <= day and due[2] > 0]


def met_day_by_day(rows, days):
    told = []
    total = 0
    for fell, amount in dues_of(rows):
        total += amount
        enough = [day for day in range(fell, days) if paid_by(rows, day) >= total]
        told.append((fell, amount, enough[0] if enough else None))
    return told


class HandedAndAsked(unittest.TestCase):
    def test_ahead_of_on_and_behind_each(self):
        book = book_of([Pay(9, 5), Pay(4, 1), Pay(9, 6), Due(3, 10), Due(9, 20), Pay(LAST, 7), Due(LAST, 40),
                        Out(4, 99), Fee(4, 99), Turn(4), Rate(4, 99)])
        rows = [(0, 0, 0), (2, 0, 0), (3, 0, 10), (4, 1, 10), (5, 1, 10), (8, 1, 10), (9, 12, 30), (10, 12, 30),
                (LAST - 1, 12, 30), (LAST, 19, 70)]
        for day, paid, due in rows:
            self.assertEqual((handed(book, day), asked(book, day)), (paid, due), day)
            self.assertIs(type(handed(book, day)), int)
            self.assertIs(type(asked(book, day)), int)

    def test_by_the_day_on_which_a_due_falls(self):
        book = book_of([Due(5, 10), Due(7, 3), Still(5, 8)])
        self.assertEqual([asked(book, day) for day in (4, 5, 6, 7, 8, 9)], [0, 0, 0, 0, 13, 13])

    def test_a_due_that_falls_on_no_day(self):
        book = book_of([Due(5, 10), Still(5, END)])
        self.assertEqual([asked(book, day) for day in DAYS], [0] * len(DAYS))

    def test_on_day_0(self):
        book = book_of([Pay(0, 3), Due(0, 4)])
        self.assertEqual((handed(book, 0), asked(book, 0), behind(book, 0)), (3, 4, 1))

    def test_of_a_book_of_none(self):
        for grace in (0, 3, 366):
            for day in DAYS:
                book = book_of([], grace)
                self.assertEqual((handed(book, day), asked(book, day), behind(book, day)), (0, 0, 0))

    def test_grace_does_not_matter_here(self):
        for grace in (0, 3, 366):
            book = book_of([Pay(5, 3), Due(5, 4)], grace)
            self.assertEqual((handed(book, 5), asked(book, 5), asked(book, 4)), (3, 4, 0))


class Behind(unittest.TestCase):
    def test_without_grace(self):
        book = book_of([Due(5, 10), Due(9, 20), Pay(7, 4), Pay(9, 5)])
        rows = [(0, 0), (4, 0), (5, 10), (6, 10), (7, 6), (8, 6), (9, 21), (10, 21), (LAST, 21)]
        for day, much in rows:
            self.assertEqual(behind(book, day), much, day)
            self.assertIs(type(behind(book, day)), int)

    def test_with_three_days_of_grace(self):
        book = book_of([Due(5, 10), Due(9, 20), Pay(7, 4), Pay(9, 5)], 3)
        rows = [(0, 0), (2, 0), (5, 0), (7, 0), (8, 6), (9, 1), (11, 1), (12, 21), (13, 21), (LAST, 21)]
        for day, much in rows:
            self.assertEqual(behind(book, day), much, day)

    def test_with_the_most_grace(self):
        book = book_of([Due(0, 10), Due(9, 20), Pay(370, 4)], 366)
        rows = [(0, 0), (9, 0), (365, 0), (366, 10), (369, 10), (370, 6), (374, 6), (375, 26), (LAST, 26)]
        for day, much in rows:
            self.assertEqual(behind(book, day), much, day)

    def test_on_days_below_the_grace(self):
        for grace in (1, 3, 366):
            book = book_of([Due(0, 10)], grace)
            for day in range(grace):
                self.assertEqual(behind(book, day), 0)
            self.assertEqual(behind(book, grace), 10)

    def test_nought_where_more_was_handed(self):
        for grace in (0, 3):
            book = book_of([Due(5, 10), Pay(5, 10), Due(9, 1), Pay(9, 100), Due(20, 50)], grace)
            for day in DAYS:
                self.assertEqual(behind(book, day), 0, day)

    def test_pays_within_the_grace_count(self):
        book = book_of([Due(5, 10), Pay(8, 10)], 3)
        self.assertEqual([behind(book, day) for day in range(12)], [0] * 12)
        book = book_of([Due(5, 10), Pay(9, 10)], 3)
        self.assertEqual([behind(book, day) for day in (7, 8, 9, 10)], [0, 10, 0, 0])

    def test_grace_begins_where_the_due_falls(self):
        book = book_of([Due(5, 10), Still(5, 8)], 3)
        self.assertEqual([behind(book, day) for day in (5, 8, 10, 11, 12)], [0, 0, 0, 10, 10])


class OpenDues(unittest.TestCase):
    def test_met_whole_in_part_and_not_at_all(self):
        book = book_of([Due(5, 10), Due(9, 20), Due(20, 30), Pay(4, 4), Pay(9, 6), Pay(20, 5)])
        rows = [(0, []), (4, []), (5, [(5, 10, 6)]), (8, [(5, 10, 6)]), (9, [(9, 20, 20)]), (19, [(9, 20, 20)]),
                (20, [(9, 20, 15), (20, 30, 30)]), (LAST, [(9, 20, 15), (20, 30, 30)])]
        for day, told in rows:
            self.assertEqual(open_dues(book, day), told, day)

    def test_a_cent_lacks(self):
        for paid, told in ((9, [(5, 10, 1), (9, 20, 20)]), (10, [(9, 20, 20)]), (11, [(9, 20, 19)]),
                           (29, [(9, 20, 1)]), (30, []), (31, [])):
            self.assertEqual(open_dues(book_of([Due(5, 10), Due(9, 20), Pay(9, paid)]), 9), told)

    def test_without_pays(self):
        book = book_of([Due(9, 20), Due(5, 10), Due(5, 1)])
        self.assertEqual(open_dues(book, 9), [(5, 11, 11), (9, 20, 20)])
        self.assertEqual(open_dues(book, 8), [(5, 11, 11)])

    def test_ahead_of_the_first_due(self):
        book = book_of([Due(5, 10), Pay(3, 4)])
        for day in (0, 3, 4):
            self.assertEqual(open_dues(book, day), [])

    def test_more_handed_than_all_dues(self):
        book = book_of([Due(5, 10), Due(9, 20), Pay(3, 31)])
        for day in DAYS:
            self.assertEqual(open_dues(book, day), [])

    def test_what_is_handed_beyond_meets_later_ones(self):
        book = book_of([Due(5, 10), Due(9, 20), Due(20, 30), Pay(5, 25)])
        self.assertEqual([open_dues(book, day) for day in (5, 8, 9, 20)],
                         [[], [], [(9, 20, 5)], [(9, 20, 5), (20, 30, 30)]])

    def test_grace_does_not_matter_here(self):
        for grace in (0, 3, 366):
            self.assertEqual(open_dues(book_of([Due(5, 10)], grace), 5), [(5, 10, 10)])

    def test_dues_that_stood_still(self):
        book = book_of([Due(5, 10), Due(8, 1), Still(5, 8), Pay(6, 3)])
        self.assertEqual([open_dues(book, day) for day in (5, 7, 8)], [[], [], [(8, 11, 8)]])

    def test_a_due_that_falls_on_no_day(self):
        book = book_of([Due(3, 4), Due(5, 10), Still(5, END)])
        self.assertEqual(open_dues(book, LAST), [(3, 4, 4)])

    def test_a_due_of_nought(self):
        book = book_of([Due(3, 0), Due(5, 2)])
        self.assertEqual(open_dues(book, 9), [(5, 2, 2)])

    def test_of_a_book_of_none(self):
        self.assertEqual(open_dues(book_of([]), 5), [])

    def test_kinds_of_what_is_told(self):
        told = open_dues(book_of([Due(5, 10), Pay(5, 3)]), 5)
        self.assertIs(type(told), list)
        self.assertIs(type(told[0]), tuple)
        self.assertEqual([type(number) for number in told[0]], [int] * 3)

    def test_they_come_to_what_is_behind_without_grace(self):
        chance = random.Random(61)
        for many in range(60):
            book = book_of(some_entries(chance, many, 40, ("pay", "due", "due", "still")))
            for day in range(50):
                told = open_dues(book, day)
                self.assertEqual(sum(row[2] for row in told), behind(book, day))
                self.assertTrue(all(0 < row[2] <= row[1] for row in told))
                self.assertTrue(all(row[2] == row[1] for row in told[1:]))


class MetOn(unittest.TestCase):
    def test_on_its_day(self):
        self.assertEqual(met_on(book_of([Due(5, 10), Pay(5, 10)])), [(5, 10, 5)])

    def test_ahead_of_it(self):
        self.assertEqual(met_on(book_of([Due(5, 10), Pay(2, 10)])), [(5, 10, 5)])
        self.assertEqual(met_on(book_of([Due(5, 10), Due(9, 4), Pay(0, 14)])), [(5, 10, 5), (9, 4, 9)])

    def test_later(self):
        self.assertEqual(met_on(book_of([Due(5, 10), Pay(5, 9), Pay(7, 1)])), [(5, 10, 7)])
        self.assertEqual(met_on(book_of([Due(5, 10), Pay(LAST, 10)])), [(5, 10, LAST)])
        self.assertEqual(met_on(book_of([Due(5, 10), Pay(2, 3), Pay(6, 3), Pay(8, 4), Pay(9, 1)])), [(5, 10, 8)])

    def test_never(self):
        self.assertEqual(met_on(book_of([Due(5, 10)])), [(5, 10, None)])
        self.assertEqual(met_on(book_of([Due(5, 10), Pay(5, 9)])), [(5, 10, None)])
        self.assertEqual(met_on(book_of([Due(5, 10), Due(6, 5), Due(7, 1), Pay(9, 14)])),
                         [(5, 10, 9), (6, 5, None), (7, 1, None)])

    def test_behind_the_last_day(self):
        still = [Due(5, 10), Still(5, END)]
        self.assertEqual(met_on(book_of(still)), [(END, 10, None)])
        self.assertEqual(met_on(book_of(still + [Pay(2, 10)])), [(END, 10, END)])
        self.assertEqual(met_on(book_of(still + [Pay(LAST, 10)])), [(END, 10, END)])
        self.assertEqual(met_on(book_of(still + [Pay(LAST, 9)])), [(END, 10, None)])
        self.assertEqual(met_on(book_of(still + [Due(2, 1), Pay(LAST, 10)])), [(2, 1, LAST), (END, 10, None)])

    def test_dues_that_stood_still(self):
        self.assertEqual(met_on(book_of([Due(5, 10), Still(4, 8), Pay(6, 10)])), [(8, 10, 8)])

    def test_one_pay_meets_several(self):
        self.assertEqual(met_on(book_of([Due(5, 10), Due(6, 10), Due(9, 10), Pay(7, 30)])),
                         [(5, 10, 7), (6, 10, 7), (9, 10, 9)])

    def test_of_a_book_without_dues(self):
        self.assertEqual(met_on(book_of([])), [])
        self.assertEqual(met_on(book_of([Pay(5, 10), Out(2, 3)])), [])

    def test_kinds_of_what_is_told(self):
        told = met_on(book_of([Due(5, 10), Pay(5, 3)]))
        self.assertIs(type(told), list)
        self.assertIs(type(told[0]), tuple)
        self.assertIs(told[0][2], None)

    def test_then_it_is_no_longer_among_the_open_ones(self):
        chance = random.Random(62)
        for many in range(60):
            book = book_of(some_entries(chance, many, 40, ("pay", "pay", "due", "still")))
            for fell, amount, met in met_on(book):
                for day in range(fell, 60):
                    lacks = fell in [row[0] for row in open_dues(book, day)]
                    self.assertEqual(lacks, met is None or day < met)


class DayByDay(unittest.TestCase):
    def test_many_books(self):
        chance = random.Random(63)
        for many in list(range(25)) * 4:
            entries = some_entries(chance, many, 30, ("pay", "pay", "due", "due", "still", "out", "fee", "rate"))
            rows = [entry.row() for entry in entries]
            grace = chance.choice((0, 1, 3, 10, 366))
            book = book_of(entries, grace)
            self.assertEqual(met_on(book), met_day_by_day(rows, 60))
            for day in range(0, 50, 3):
                self.assertEqual(handed(book, day), paid_by(rows, day))
                self.assertEqual(asked(book, day), asked_by(rows, day))
                late = asked_by(rows, day - grace) if day >= grace else 0
                self.assertEqual(behind(book, day), max(0, late - paid_by(rows, day)))
                self.assertEqual(open_dues(book, day), cent_by_cent(rows, day))

    def test_a_full_book(self):
        entries = [Due(3 * many, 7) for many in range(250)] + [Pay(4 * many, 7) for many in range(250)]
        book = book_of(entries)
        self.assertEqual(met_on(book), [(3 * many, 7, 4 * many) for many in range(250)])
        self.assertEqual(open_dues(book, LAST), [])
        self.assertEqual(behind(book, 600), 7 * (201 - 151))


class TheAskersOwn(unittest.TestCase):
    def test_told_lists(self):
        book = book_of([Due(5, 10), Due(9, 4), Pay(6, 3)])
        for told_again in (lambda: open_dues(book, 9), lambda: met_on(book)):
            kept, other, told = told_again(), told_again(), told_again()
            told.append(None)
            self.assertEqual((other, told_again()), (kept, kept))
            told.clear()
            self.assertEqual((other, told_again()), (kept, kept))

    def test_the_book_stays(self):
        entries = some_entries(random.Random(64), 60, 30)
        book = book_of(entries, 3)
        kept = (book.entries(), book.pays(), book.dues(), book.stills(), book.grace())
        for day in (0, 3, 10, 30, LAST):
            handed(book, day)
            asked(book, day)
            behind(book, day)
            open_dues(book, day)
            met_on(book)
        self.assertEqual((book.entries(), book.pays(), book.dues(), book.stills(), book.grace()), kept)

    def test_a_book_with_more_leaves_what_was_told(self):
        book = book_of([Due(5, 10)])
        told = open_dues(book, 9)
        other = book.with_more([Pay(6, 4)])
        self.assertEqual((told, open_dues(book, 9), open_dues(other, 9)), ([(5, 10, 10)], [(5, 10, 10)], [(5, 10, 6)]))
        self.assertEqual((handed(book, 9), handed(other, 9)), (0, 4))


if __name__ == "__main__":
    unittest.main()
