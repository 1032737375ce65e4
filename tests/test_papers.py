import itertools
import random
import unittest

from loanroll.books import Book
from loanroll.counts import Count, count_named
from loanroll.entries import Due, Fee, Late, Out, Pay, Rate, Still, Turn
from loanroll.errors import NoDays, TooMany
from loanroll.leasts import least_even, with_pays
from loanroll.papers import even_paper, paper_ok
from loanroll.statements import statement
from tests.refusals import LAST, WORDS, assert_refused, lists_of_no_days, some_days, some_entries, told_by

NAMES = ("plain", "bank", "thirty", "exact")
# By a rate of so many, 10000 cents are charged one cent a day where a year weighs 365.
CENT_A_DAY = 365
CENT = 3650000


def book_of(entries, grace=0):
    return Book(Count(), grace, entries)


def loan(more=()):
    return book_of([Out(0, 10000), Rate(0, CENT_A_DAY)] + list(more))


def free_loan(more=()):
    """One that no rate charges."""
    return book_of([Out(0, 10000)] + list(more))


def rich_loan():
    return book_of([Out(0, 10000), Rate(0, 500), Late(0, 900), Due(20, 700), Fee(33, 12), Turn(40), Still(50, 57),
                    Pay(35, 40), Out(61, 300), Fee(70, -5), Pay(99, 9)], 3)


def some_books(seed, many):
    chance = random.Random(seed)
    for name, grace in itertools.product(NAMES, (0, 3)):
        for _ in range(many):
            size = chance.choice((1, 100, 1000))
            entries = some_entries(chance, chance.randrange(30), 60, WORDS, 0, size)
            entries += [Out(0, 200 * size)] * chance.randrange(2)
            days = some_days(chance, chance.choice((1, 2, 5, 12)), 0, 90)
            yield Book(count_named(name), grace, entries), days


def rows_by(book, days, amount):
    return statement(with_pays(book, days, amount), days[-1])


def paper_by(book, days, amount):
    """What a paper with this sum would be, where its statements are right."""
    return (amount, rows_by(book, days, amount), rows_by(book, days, amount - 1) if amount > 0 else None)


def other_rows(rows):
    """Lists that differ from these rows in one thing."""
    for place, row in enumerate(rows):
        for column, more in itertools.product(range(7), (-1, 1)):
            yield rows[:place] + [row[:column] + (row[column] + more,) + row[column + 1:]] + rows[place + 1:]
        yield rows[:place] + rows[place + 1:]
        yield rows[:place] + [row] + rows[place:]
        yield rows[:place] + [(row[0], 0, 0, 0, 0) + row[5:], row] + rows[place + 1:]
    if len(rows) > 1:
        yield rows[::-1]
        yield [rows[1], rows[0]] + rows[2:]
    yield rows + [(rows[-1][0] + 1, 0, 0, 0, 0) + rows[-1][5:]]
    yield []


class EvenPaper(unittest.TestCase):
    def test_by_hand(self):
        rows = [(0, 10000, 0, 0, 0, 10000, 10000 * CENT), (5, 0, 0, 0, 5000, 5000, 5000 * CENT),
                (9, 0, 0, 0, 5000, 0, 0)]
        fewer = [(0, 10000, 0, 0, 0, 10000, 10000 * CENT), (5, 0, 0, 0, 4999, 5001, 5001 * CENT),
                 (9, 0, 0, 0, 4999, 2, 2 * CENT)]
        self.assertEqual(even_paper(free_loan(), [5, 9]), (5000, rows, fewer))

    def test_with_a_rate(self):
        amount, rows, fewer = even_paper(loan(), [100, 200])
        self.assertEqual(amount, 5075)
        # 5025 and 50.25 of interest, less 5075; and 5026 and 50.26 less 5074.
        self.assertEqual(rows[-1], (200, 0, 0, 0, 5075, 0, CENT // 4))
        self.assertEqual(fewer[-1], (200, 0, 0, 0, 5074, 2, 2 * CENT + CENT * 26 // 100))

    def test_the_sum_1(self):
        book = book_of([Out(3, 2)])
        self.assertEqual(even_paper(book, [4, 5]),
                         (1, [(3, 2, 0, 0, 0, 2, 2 * CENT), (4, 0, 0, 0, 1, 1, CENT), (5, 0, 0, 0, 1, 0, 0)],
                          [(3, 2, 0, 0, 0, 2, 2 * CENT), (5, 0, 0, 0, 0, 2, 2 * CENT)]))

    def test_the_sum_0(self):
        self.assertEqual(even_paper(book_of([]), [3, 9]), (0, [(9, 0, 0, 0, 0, 0, 0)], None))
        self.assertEqual(even_paper(book_of([Out(3, 2), Pay(4, 5)]), [4, 9]),
                         (0, [(3, 2, 0, 0, 0, 2, 2 * CENT), (4, 0, 0, 0, 5, 0, -3 * CENT),
                              (9, 0, 0, 0, 0, 0, -3 * CENT)], None))

    def test_it_is_the_least_even_sum_and_two_statements(self):
        seen = {True: 0, False: 0}
        for book, days in some_books(301, 4):
            least = least_even(book, days)
            self.assertEqual(even_paper(book, days), paper_by(book, days, least))
            seen[least > 0] += 1
        self.assertGreater(min(seen.values()), 5)

    def test_what_the_two_statements_end_with(self):
        for book, days in some_books(302, 4):
            amount, rows, fewer = even_paper(book, days)
            unit = book.count().unit()
            self.assertEqual(rows[-1][0], days[-1])
            self.assertLessEqual(rows[-1][6] // unit, 0)
            if amount == 0:
                self.assertIsNone(fewer)
            else:
                self.assertEqual(fewer[-1][0], days[-1])
                self.assertGreater(fewer[-1][6] // unit, 0)

    def test_kinds_of_what_is_told(self):
        told = even_paper(loan(), [30, 60])
        self.assertEqual([type(thing) for thing in told], [int, list, list])
        self.assertIs(type(told), tuple)
        for row in told[1] + told[2]:
            self.assertIs(type(row), tuple)
            self.assertEqual([type(number) for number in row], [int] * 7)

    def test_the_told_lists_are_the_askers_own(self):
        for book in (loan(), rich_loan()):
            first = even_paper(book, [30, 60])
            kept = (first[0], list(first[1]), list(first[2]))
            other = even_paper(book, [30, 60])
            first[1].clear()
            first[2].clear()
            self.assertEqual((other, even_paper(book, [30, 60])), (kept, kept))
            self.assertIs(paper_ok(book, [30, 60], other), True)
            self.assertIs(paper_ok(book, [30, 60], first), False)

    def test_the_two_lists_are_not_one(self):
        told = even_paper(loan(), [30, 60])
        kept = list(told[2])
        told[1].clear()
        self.assertEqual(told[2], kept)

    def test_360_days_beside_140_entries(self):
        chance = random.Random(303)
        book = book_of(some_entries(chance, 138, 9000, WORDS, 0, 1000) + [Out(0, 10 ** 9), Rate(0, 450)], 5)
        days = list(range(30, 10830, 30))
        paper = even_paper(book, days)
        self.assertEqual(paper, paper_by(book, days, paper[0]))
        self.assertIs(paper_ok(book, days, paper), True)
        self.assertIs(paper_ok(book, days, paper_by(book, days, paper[0] + 1)), False)
        self.assertIs(paper_ok(book, days, paper_by(book, days, paper[0] - 1)), False)


class PaperOk(unittest.TestCase):
    def cases(self):
        return [(loan(), [100, 200]), (loan(), [30]), (rich_loan(), [10, 40, 62, 90]), (free_loan(), [0, LAST]),
                (book_of([]), [3, 9]), (free_loan([Pay(5, 10000)]), [4, 7]), (book_of([Out(3, 2)]), [4, 5])]

    def test_each_that_is_told(self):
        for book, days in self.cases() + list(some_books(311, 4)):
            self.assertIs(paper_ok(book, days, even_paper(book, days)), True)

    def test_written_by_hand(self):
        rows = [(0, 10000, 0, 0, 0, 10000, 10000 * CENT), (9, 0, 0, 0, 10000, 0, 0)]
        fewer = [(0, 10000, 0, 0, 0, 10000, 10000 * CENT), (9, 0, 0, 0, 9999, 1, CENT)]
        self.assertIs(paper_ok(free_loan(), [9], (10000, rows, fewer)), True)
        self.assertIs(paper_ok(free_loan(), [9], (10000, fewer, rows)), False)

    def test_another_number_with_the_same_statements(self):
        for book, days in self.cases():
            amount, rows, fewer = even_paper(book, days)
            for more in (-10 ** 20, -amount - 1, -2, -1, 1, 2, 10 ** 20):
                self.assertIs(paper_ok(book, days, (amount + more, rows, fewer)), False)

    def test_another_number_with_its_own_right_statements(self):
        for book, days in self.cases() + list(some_books(312, 3)):
            least = least_even(book, days)
            for amount in (least - 2, least - 1, least, least + 1, least + 2, 2 * least + 7, 10 ** 15):
                if amount >= 0:
                    self.assertIs(paper_ok(book, days, paper_by(book, days, amount)), amount == least)

    def test_below_0(self):
        # A pay below 0 would be owed besides: its statements are as right as can be.
        for book, days in self.cases():
            least = least_even(book, days)
            for amount in (-1, -5, -10 ** 12):
                rows = statement(book.with_more([Pay(day, amount) for day in days]), days[-1])
                fewer = statement(book.with_more([Pay(day, amount - 1) for day in days]), days[-1])
                own = rows_by(book, days, 0)
                for paper in ((amount, rows, fewer), (amount, rows, None), (amount, own, None), (amount, own, own),
                              (amount, rows_by(book, days, least), rows)):
                    self.assertIs(paper_ok(book, days, paper), False)

    def test_below_0_where_a_credit_would_be_left(self):
        # On the last day 500 stand as a credit, so a pay of -500 would still leave nothing owed, and -501 would not.
        book = free_loan([Pay(5, 10500)])
        rows = statement(book.with_more([Pay(9, -500)]), 9)
        fewer = statement(book.with_more([Pay(9, -501)]), 9)
        self.assertIs(paper_ok(book, [9], (-500, rows, fewer)), False)
        self.assertIs(paper_ok(book, [9], (-500, statement(book, 9), None)), False)
        self.assertIs(paper_ok(book, [9], (0, statement(book, 9), None)), True)

    def test_one_thing_otherwise_in_the_rows(self):
        for book, days in self.cases():
            amount, rows, fewer = even_paper(book, days)
            for other in other_rows(rows):
                if other != rows:
                    self.assertIs(paper_ok(book, days, (amount, other, fewer)), False)

    def test_one_thing_otherwise_in_the_others(self):
        for book, days in self.cases():
            amount, rows, fewer = even_paper(book, days)
            for other in other_rows(fewer or rows):
                if other != fewer:
                    self.assertIs(paper_ok(book, days, (amount, rows, other)), False)

    def test_both_change_places(self):
        for book, days in self.cases():
            amount, rows, fewer = even_paper(book, days)
            for paper in ((amount, fewer or [], rows), (amount, rows, rows), (amount, fewer or [], fewer)):
                self.assertIs(paper_ok(book, days, paper), False)

    def test_others_for_the_sum_0(self):
        for book in (book_of([]), free_loan([Pay(5, 10000)]), free_loan([Pay(5, 10500)])):
            days = [4, 7]
            rows = statement(book, 7)
            below = statement(book.with_more([Pay(day, -1) for day in days]), 7)
            self.assertIs(paper_ok(book, days, (0, rows, None)), True)
            for others in ([], rows, below, rows_by(book, days, 1)):
                self.assertIs(paper_ok(book, days, (0, rows, others)), False)

    def test_none_for_another_sum(self):
        for book, days in self.cases():
            for amount in (least_even(book, days), least_even(book, days) + 1, 1, 2, 10 ** 9):
                if amount > 0:
                    self.assertIs(paper_ok(book, days, (amount, rows_by(book, days, amount), None)), False)

    def test_the_sum_0_where_something_is_owed(self):
        for book, days in self.cases():
            rows = rows_by(book, days, 0)
            self.assertIs(paper_ok(book, days, (0, rows, None)), least_even(book, days) == 0)
            self.assertIs(paper_ok(book, days, (0, rows, rows)), False)

    def test_empty_lists(self):
        for book, days in self.cases():
            amount, rows, fewer = even_paper(book, days)
            for paper in ((amount, [], fewer), (amount, rows, []), (amount, [], []), (amount, [], None), (0, [], None)):
                self.assertIs(paper_ok(book, days, paper), False)

    def test_up_to_another_day(self):
        book, days = rich_loan(), [10, 40, 62, 90]
        amount, rows, fewer = even_paper(book, days)
        paid, less = with_pays(book, days, amount), with_pays(book, days, amount - 1)
        for day in (0, 40, 62, 89, 91, LAST):
            for paper in ((amount, statement(paid, day), fewer), (amount, rows, statement(less, day)),
                          (amount, statement(paid, day), statement(less, day))):
                self.assertIs(paper_ok(book, days, paper), False)

    def test_over_other_days(self):
        book = rich_loan()
        lists = ([10, 40, 62, 90], [11, 40, 62, 90], [10, 40, 62, 91], [40, 62, 90], [90], [10, 40])
        for one, other in itertools.product(lists, lists):
            self.assertIs(paper_ok(book, one, even_paper(book, other)), one == other)

    def test_of_another_book(self):
        days = [10, 40, 62, 90]
        paper = even_paper(rich_loan(), days)
        for more in (Pay(20, 1), Out(9, 1), Fee(15, 1), Turn(15), Rate(39, 0), Still(70, 71), Fee(11, 0)):
            self.assertIs(paper_ok(rich_loan().with_more([more]), days, paper), False)
        for more in (Pay(91, 1), Turn(91), Rate(90, 0), Still(90, 91), Due(91, 9), Fee(90, 0)):
            self.assertIs(paper_ok(rich_loan().with_more([more]), days, paper), True)

    def test_numbers_far_beyond(self):
        amount, rows, fewer = even_paper(loan(), [30, 60])
        for much in (-10 ** 100, 10 ** 100):
            self.assertIs(paper_ok(loan(), [30, 60], (much, rows, fewer)), False)
            for column in range(7):
                row = rows[-1][:column] + (much,) + rows[-1][column + 1:]
                self.assertIs(paper_ok(loan(), [30, 60], (amount, rows[:-1] + [row], fewer)), False)
                self.assertIs(paper_ok(loan(), [30, 60], (amount, rows, fewer[:-1] + [row])), False)

    def test_looked_at_again(self):
        book, days = loan(), [30, 60]
        paper = even_paper(book, days)
        for _ in range(2):
            self.assertIs(paper_ok(book, days, paper), True)
        paper[2].append(paper[2][-1])
        self.assertIs(paper_ok(book, days, paper), False)
        paper[2].pop()
        self.assertIs(paper_ok(book, days, paper), True)


class Refused(unittest.TestCase):
    def test_whatever_is_no_list_of_days(self):
        papers = (even_paper(loan(), [5]), (0, [], None), (-1, [], []))
        for book in (book_of([]), loan(), book_of([Pay(3, 5)] * 500)):
            for days in lists_of_no_days():
                assert_refused(self, NoDays, even_paper, book, days)
                for paper in papers:
                    assert_refused(self, NoDays, paper_ok, book, days, paper)

    def test_too_many(self):
        for many, days in ((500, 1), (499, 2), (141, 360), (400, 101), (500, 360)):
            for entry in (Pay(3, 5), Out(3, 5), Rate(3, 5), Still(3, 5), Due(3, 5)):
                book, listed = book_of([entry] * many), list(range(days))
                assert_refused(self, TooMany, even_paper, book, listed)
                for paper in ((0, statement(book, listed[-1]), None), (0, [], None), (5, [], [])):
                    self.assertIs(paper_ok(book, listed, paper), False)

    def test_500_together(self):
        for many, days in ((499, 1), (498, 2), (140, 360), (400, 100)):
            for entry in (Pay(3, 5), Out(0, 5)):
                book, listed = book_of([entry] * many), list(range(days))
                paper = even_paper(book, listed)
                self.assertIs(paper_ok(book, listed, paper), True)
                self.assertIs(paper_ok(book, listed, (paper[0] + 1,) + paper[1:]), False)

    def test_no_days_comes_first(self):
        full = book_of([Pay(3, 5)] * 500)
        for days in ([], [5, 5], [6, 5], [True], None, list(range(361))):
            assert_refused(self, NoDays, even_paper, full, days)
            assert_refused(self, NoDays, paper_ok, full, days, (0, [], None))
        assert_refused(self, TooMany, even_paper, full, [5])
        self.assertIs(paper_ok(full, [5], (0, [], None)), False)


class Kept(unittest.TestCase):
    def test_the_book_the_days_and_the_paper_stay(self):
        for book, days in some_books(321, 2):
            kept, kept_days = told_by(book), list(days)
            paper = even_paper(book, days)
            copied = (paper[0], list(paper[1]), None if paper[2] is None else list(paper[2]))
            paper_ok(book, days, paper)
            paper_ok(book, days, (paper[0] + 1, paper[1], paper[2]))
            self.assertEqual((told_by(book), days, paper), (kept, kept_days, copied))

    def test_a_wrong_paper_stays(self):
        book, days = loan(), [30, 60]
        for paper in ((5, [], []), (0, [(1,) * 7], [(2,) * 7, (1,) * 7]), (-3, [(0,) * 7], None)):
            copied = (paper[0], list(paper[1]), None if paper[2] is None else list(paper[2]))
            paper_ok(book, days, paper)
            self.assertEqual(paper, copied)

    def test_days_changed_behind(self):
        days = [30, 60]
        paper = even_paper(loan(), days)
        kept = (paper[0], list(paper[1]), list(paper[2]))
        days.append(90)
        self.assertEqual(paper, kept)
        self.assertEqual(even_paper(loan(), [30, 60]), kept)


if __name__ == "__main__":
    unittest.main()
