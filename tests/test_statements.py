import itertools
import random
import unittest

from loanroll.accounts import account, charged
from loanroll.books import Book
from loanroll.counts import Count, count_named
from loanroll.entries import Due, Fee, Late, Out, Pay, Rate, Still, Turn
from loanroll.statements import statement, statement_ok
from tests.refusals import WORDS, DayByDay, debt_of, some_entries

LAST = 999999
NAMES = ("plain", "bank", "thirty", "exact")
# By a rate of so many, 10000 cents are charged one cent a day where a year weighs 365.
CENT_A_DAY = 365
CENT = 3650000


def book_of(entries, grace=0):
    return Book(Count(), grace, entries)


def loan():
    return book_of([Out(10, 6000), Rate(0, CENT_A_DAY), Out(10, 4000), Fee(15, 20), Fee(15, -20), Pay(20, 8),
                    Pay(20, 7), Turn(30), Fee(30, 5), Due(12, 50), Late(700, 3), Still(800, 900)])


LOAN_ROWS = [(10, 10000, 0, 0, 0, 10000, 10000 * CENT), (15, 0, 0, 0, 0, 10000, 10005 * CENT),
             (20, 0, 0, 0, 15, 9995, 9995 * CENT), (30, 0, 5, 1, 0, 10009, 10009 * CENT + 3631750)]


def some_book(chance, many, name, grace):
    return Book(count_named(name), grace, some_entries(chance, many, 60, WORDS, 0, 1000))


def day_by_day(book, day):
    """The statement as [46] says it, with each day's account made day by day."""
    walk = DayByDay(book.count(), book.grace(), [entry.row() for entry in book.entries()])
    told = []
    for each, stands in enumerate(walk.accounts(day)):
        deeds = any(row[1] == each and row[0] in ("out", "fee", "turn", "pay") for row in walk.rows)
        if deeds or each == day:
            told.append((each,) + walk.deeds(each) + stands)
    return told


def row_by_row(book, day, rows):
    """Whether rows are the statement, as [47] says it: each from the row ahead."""
    wanted = [each for each in book.deed_days() if each <= day]
    if day not in wanted:
        wanted.append(day)
    if [row[0] for row in rows] != wanted:
        return False
    unit = book.count().unit()
    ahead = (0, 0, 0, 0, 0, 0, 0)
    for row in rows:
        debt = debt_of(unit, ahead[5], ahead[6])
        debt.grow(charged(book, ahead[5], ahead[0], row[0]))
        deeds = (dict(book.outs()).get(row[0], 0), dict(book.fees()).get(row[0], 0), int(row[0] in book.turns()),
                 dict(book.pays()).get(row[0], 0))
        debt.lend(deeds[0])
        debt.fee(deeds[1])
        if deeds[2]:
            debt.turn()
        debt.take(deeds[3])
        if row[1:] != deeds + (debt.principal(), debt.units()):
            return False
        ahead = row
    return True


def other_lists(rows):
    """Lists of rows that differ from these in one thing."""
    for place, row in enumerate(rows):
        for column in range(7):
            for more in (-1, 1):
                changed = row[:column] + (row[column] + more,) + row[column + 1:]
                yield rows[:place] + [changed] + rows[place + 1:]
        yield rows[:place] + rows[place + 1:]
        yield rows[:place] + [row] + rows[place:]
        for other in range(place):
            swapped = list(rows)
            swapped[place], swapped[other] = swapped[other], swapped[place]
            yield swapped
        yield rows[:place] + [(row[0],) + (0,) * 4 + row[5:]] + rows[place:]
    yield rows + [(rows[-1][0] + 1, 0, 0, 0, 0) + rows[-1][5:]]
    yield [(0, 0, 0, 0, 0, 0, 0)] + rows
    yield list(reversed(rows)) if len(rows) > 1 else []
    yield rows + rows
    yield []


class Statement(unittest.TestCase):
    def test_up_to_a_deed_day(self):
        for many in range(1, 5):
            self.assertEqual(statement(loan(), LOAN_ROWS[many - 1][0]), LOAN_ROWS[:many])

    def test_up_to_a_day_that_is_none(self):
        self.assertEqual(statement(loan(), 11), LOAN_ROWS[:1] + [(11, 0, 0, 0, 0, 10000, 10001 * CENT)])
        self.assertEqual(statement(loan(), 19), LOAN_ROWS[:2] + [(19, 0, 0, 0, 0, 10000, 10009 * CENT)])

    def test_days_of_other_entries_have_no_row(self):
        for day in (12, 700, 800):
            rows = statement(loan(), day + 1)
            self.assertNotIn(day, [row[0] for row in rows])

    def test_up_to_a_day_ahead_of_all_deeds(self):
        for day in (0, 1, 9):
            self.assertEqual(statement(loan(), day), [(day, 0, 0, 0, 0, 0, 0)])

    def test_up_to_the_last_day(self):
        rows = statement(loan(), LAST)
        debt = account(loan(), LAST)
        self.assertEqual(rows, LOAN_ROWS + [(LAST, 0, 0, 0, 0, debt.principal(), debt.units())])
        self.assertEqual(statement(book_of([Out(LAST, 5)]), LAST), [(LAST, 5, 0, 0, 0, 5, 5 * CENT)])

    def test_of_a_book_without_deeds(self):
        for entries in ([], [Rate(3, 5), Late(3, 5), Due(3, 5), Still(3, 5)]):
            for day in (0, 3, LAST):
                self.assertEqual(statement(book_of(entries), day), [(day, 0, 0, 0, 0, 0, 0)])

    def test_fees_that_come_to_0(self):
        book = book_of([Out(3, 100), Fee(5, 7), Fee(5, -7), Fee(6, 0)])
        self.assertEqual(statement(book, 6), [(3, 100, 0, 0, 0, 100, 100 * CENT), (5, 0, 0, 0, 0, 100, 100 * CENT),
                                              (6, 0, 0, 0, 0, 100, 100 * CENT)])

    def test_several_sums_of_one_day(self):
        book = book_of([Pay(5, 4), Fee(5, 9), Out(5, 30), Turn(5), Fee(5, -2), Out(5, 70), Pay(5, 6), Turn(5)])
        self.assertEqual(statement(book, 5), [(5, 100, 7, 1, 10, 97, 97 * CENT)])

    def test_each_kind_of_deed_by_itself(self):
        self.assertEqual(statement(book_of([Out(5, 9)]), 5), [(5, 9, 0, 0, 0, 9, 9 * CENT)])
        self.assertEqual(statement(book_of([Fee(5, 9)]), 5), [(5, 0, 9, 0, 0, 0, 9 * CENT)])
        self.assertEqual(statement(book_of([Fee(5, -9)]), 5), [(5, 0, -9, 0, 0, 0, -9 * CENT)])
        self.assertEqual(statement(book_of([Turn(5)]), 5), [(5, 0, 0, 1, 0, 0, 0)])
        self.assertEqual(statement(book_of([Pay(5, 9)]), 5), [(5, 0, 0, 0, 9, 0, -9 * CENT)])

    def test_kinds_of_what_is_told(self):
        told = statement(loan(), 31)
        self.assertIs(type(told), list)
        for row in told:
            self.assertIs(type(row), tuple)
            self.assertEqual([type(number) for number in row], [int] * 7)

    def test_day_by_day(self):
        chance = random.Random(91)
        for name, grace in itertools.product(NAMES, (0, 3, 20)):
            book = some_book(chance, chance.randrange(50), name, grace)
            for day in (0, chance.randrange(60), chance.randrange(60), 75):
                self.assertEqual(statement(book, day), day_by_day(book, day))

    def test_told_is_what_the_accounts_are(self):
        chance = random.Random(92)
        for name in NAMES:
            book = some_book(chance, 40, name, 3)
            for row in statement(book, LAST):
                debt = account(book, row[0])
                self.assertEqual(row[5:], (debt.principal(), debt.units()))

    def test_a_full_book_up_to_the_last_day(self):
        book = book_of([Out(7 * many, 10 + many) for many in range(500)])
        rows = statement(book, LAST)
        self.assertEqual(len(rows), 501)
        self.assertEqual(rows[-1][5], sum(10 + many for many in range(500)))
        self.assertIs(statement_ok(book, LAST, rows), True)

    def test_the_told_list_is_the_askers_own(self):
        book = loan()
        kept = list(statement(book, 31))
        told = statement(book, 31)
        other = statement(book, 31)
        told[0] = None
        self.assertEqual((other, statement(book, 31)), (kept, kept))
        told.clear()
        self.assertEqual((other, statement(book, 31)), (kept, kept))

    def test_the_book_stays(self):
        book = loan()
        kept = (book.entries(), book.outs(), book.fees(), book.pays(), book.turns(), book.deed_days(), book.dues())
        rows = statement(book, LAST)
        statement_ok(book, LAST, rows)
        statement_ok(book, 5, rows)
        self.assertEqual((book.entries(), book.outs(), book.fees(), book.pays(), book.turns(), book.deed_days(),
                          book.dues()), kept)


class StatementOk(unittest.TestCase):
    def test_each_that_is_told(self):
        chance = random.Random(93)
        for name, grace in itertools.product(NAMES, (0, 3)):
            book = some_book(chance, chance.randrange(50), name, grace)
            for day in (0, 1, 30, 59, 60, 90, LAST):
                self.assertIs(statement_ok(book, day, statement(book, day)), True)

    def test_written_by_hand(self):
        self.assertIs(statement_ok(loan(), 30, list(LOAN_ROWS)), True)
        self.assertIs(statement_ok(loan(), 9, [(9, 0, 0, 0, 0, 0, 0)]), True)
        self.assertIs(statement_ok(book_of([]), 0, [(0, 0, 0, 0, 0, 0, 0)]), True)

    def test_one_thing_otherwise(self):
        for book, day in ((loan(), 30), (loan(), 40), (loan(), 5), (book_of([]), 0), (book_of([Turn(4)]), LAST)):
            rows = statement(book, day)
            for other in other_lists(rows):
                if other != rows:
                    self.assertIs(statement_ok(book, day, other), False, other)

    def test_one_thing_otherwise_in_many_books(self):
        chance = random.Random(94)
        for name in NAMES:
            book = some_book(chance, 15, name, 2)
            rows = statement(book, 70)
            for other in other_lists(rows):
                self.assertIs(statement_ok(book, 70, other), other == rows)
                self.assertIs(row_by_row(book, 70, other), other == rows)

    def test_an_error_that_is_carried_on(self):
        # From the second row on all follows from a first one that is wrong.
        rows = [(10, 10000, 0, 0, 0, 10000, 10000 * CENT + 1), (15, 0, 0, 0, 0, 10000, 10005 * CENT + 1)]
        self.assertIs(statement_ok(loan(), 15, rows), False)
        self.assertIs(statement_ok(loan(), 15, LOAN_ROWS[:2]), True)

    def test_numbers_far_beyond(self):
        for much in (-10 ** 100, 10 ** 100):
            for column in range(7):
                row = LOAN_ROWS[0][:column] + (much,) + LOAN_ROWS[0][column + 1:]
                self.assertIs(statement_ok(loan(), 10, [row]), False)

    def test_up_to_another_day(self):
        book = loan()
        days = (0, 9, 10, 11, 15, 16, 29, 30, 31, LAST)
        for one, other in itertools.product(days, days):
            self.assertIs(statement_ok(book, one, statement(book, other)), one == other)

    def test_of_another_book(self):
        rows = statement(loan(), 40)
        for more in (Pay(20, 1), Out(9, 1), Fee(15, 1), Turn(15), Rate(39, 0), Still(39, 41), Fee(11, 0)):
            self.assertIs(statement_ok(loan().with_more([more]), 40, rows), False)
        for more in (Pay(41, 1), Turn(41), Rate(40, 0), Still(40, 41), Due(3, 9), Fee(40, 0), Fee(15, 0)):
            self.assertIs(statement_ok(loan().with_more([more]), 40, rows), True)

    def test_the_list_that_is_looked_at_stays(self):
        book = loan()
        for rows in (statement(book, 30), statement(book, 31), [], [(0,) * 7], list(reversed(LOAN_ROWS))):
            kept = list(rows)
            statement_ok(book, 30, rows)
            self.assertEqual(rows, kept)

    def test_looked_at_again(self):
        book = loan()
        rows = statement(book, 30)
        self.assertIs(statement_ok(book, 30, rows), True)
        rows.append(rows[-1])
        self.assertIs(statement_ok(book, 30, rows), False)
        rows.pop()
        self.assertIs(statement_ok(book, 30, rows), True)


if __name__ == "__main__":
    unittest.main()
