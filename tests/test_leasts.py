import itertools
import random
import unittest

from loanroll.accounts import owed
from loanroll.books import Book
from loanroll.counts import Count, count_named
from loanroll.entries import Due, Fee, Late, Out, Pay, Rate, Still, Turn
from loanroll.errors import NoDays, TooMany
from loanroll.leasts import ends_on, least_even, least_once, with_pays
from tests.refusals import (LAST, WORDS, DayByDay, Tally, assert_refused, lists_of_no_days, rows_of, some_days,
                            some_entries, things_no_days, told_by)

NAMES = ("plain", "bank", "thirty", "exact")
# By a rate of so many, 10000 cents are charged one cent a day where a year weighs 365.
CENT_A_DAY = 365


def book_of(entries, grace=0):
    return Book(Count(), grace, entries)


def loan(more=()):
    return book_of([Out(0, 10000), Rate(0, CENT_A_DAY)] + list(more))


def free_loan(more=()):
    """One that no rate charges."""
    return book_of([Out(0, 10000)] + list(more))


def full(many):
    return book_of([Pay(3, 5)] * many)


def some_books(seed, many, sizes=(1, 100, 1000)):
    """Books by chance with all kinds of entries, each with days; half of them were lent much at first."""
    chance = random.Random(seed)
    for name, grace in itertools.product(NAMES, (0, 3)):
        for _ in range(many):
            size = chance.choice(sizes)
            first = chance.choice((0, 50, 1080))
            entries = some_entries(chance, chance.randrange(40), 60, WORDS, first, size)
            entries += [Out(first, 200 * size)] * chance.randrange(2)
            days = some_days(chance, chance.choice((1, 1, 2, 5, 12, 40)), first, 90)
            yield chance, Book(count_named(name), grace, entries), days


def owed_by_words(book, pays, days):
    """What is owed on each of the days where this is paid besides, by accounts made day by day."""
    walk = DayByDay(book.count(), book.grace(), rows_of(book.entries()) + [("pay",) + pay for pay in pays])
    first = min([row[1] for row in walk.rows] + days)
    told = walk.accounts(max(days), first)
    return [told[day - first][1] // book.count().unit() for day in days]


def evenly(days, amount):
    return [(day, amount) for day in days] if amount else []


def split(chance, amount):
    """Parts above 0 that come to the amount."""
    parts = []
    while amount > 0:
        part = amount if len(parts) == 2 else chance.randint(1, amount)
        parts.append(part)
        amount -= part
    return parts


class WithPays(unittest.TestCase):
    def test_a_pay_on_each_of_the_days(self):
        own = [("out", 0, 10000), ("rate", 0, CENT_A_DAY)]
        rows = [([30], 5, [("pay", 30, 5)]), ([30, 60, 61], 7, [("pay", 30, 7), ("pay", 60, 7), ("pay", 61, 7)]),
                ([0, LAST], 1, [("pay", 0, 1), ("pay", LAST, 1)])]
        for days, amount, pays in rows:
            self.assertEqual(rows_of(with_pays(loan(), days, amount).entries()), own + pays)

    def test_360_days(self):
        for days in (list(range(360)), list(range(0, 999720, 2777)), list(range(LAST - 359, LAST + 1))):
            told = with_pays(loan(), days, 9)
            self.assertEqual(rows_of(told.entries())[2:], [("pay", day, 9) for day in days])
            self.assertEqual(told.pays(), [(day, 9) for day in days])

    def test_the_books_own_in_their_order(self):
        for chance, book, days in some_books(201, 2):
            for amount in (1, 77, 10 ** 12):
                told = with_pays(book, days, amount)
                self.assertEqual(told.entries()[:len(book.entries())], book.entries())
                self.assertEqual(rows_of(told.entries()), rows_of(book.entries()) + [("pay", d, amount) for d in days])

    def test_with_the_sum_0_the_same_entries_alone(self):
        for chance, book, days in some_books(202, 2):
            told = with_pays(book, days, 0)
            self.assertIsNot(told, book)
            self.assertEqual(told_by(told), told_by(book))

    def test_sums_greater_than_an_amount(self):
        for amount in (10 ** 12, 10 ** 12 + 1, 10 ** 40):
            told = with_pays(loan(), [0, 5], amount)
            self.assertEqual(told.pays(), [(0, amount), (5, amount)])
            self.assertEqual(owed(told, 5), 10000 - 2 * amount)

    def test_days_ahead_of_the_first_entry(self):
        book = book_of([Out(100, 10000)])
        told = with_pays(book, [3, 7], 50)
        self.assertEqual(rows_of(told.entries()), [("out", 100, 10000), ("pay", 3, 50), ("pay", 7, 50)])
        self.assertEqual([owed(told, day) for day in (2, 3, 7, 100)], [0, -50, -100, 9900])

    def test_days_with_pays_of_the_books_own(self):
        book = free_loan([Pay(9, 3), Pay(5, 4)])
        told = with_pays(book, [5, 7, 9], 10)
        self.assertEqual(rows_of(told.entries()), [("out", 0, 10000), ("pay", 9, 3), ("pay", 5, 4), ("pay", 5, 10),
                                                   ("pay", 7, 10), ("pay", 9, 10)])
        self.assertEqual(told.pays(), [(5, 14), (7, 10), (9, 13)])

    def test_count_and_grace_are_the_books(self):
        for name, grace in itertools.product(NAMES, (0, 366)):
            book = Book(count_named(name), grace, [])
            told = with_pays(book, [4], 1)
            self.assertIs(type(told), Book)
            self.assertIs(told.count(), book.count())
            self.assertEqual(told.grace(), grace)


class EndsOn(unittest.TestCase):
    def test_by_hand(self):
        for amount, day in ((0, None), (1, None), (3333, None), (3334, 30), (4999, 30), (5000, 20), (9999, 20),
                            (10000, 10), (10 ** 20, 10)):
            self.assertEqual(ends_on(free_loan(), [10, 20, 30], amount), day)

    def test_with_what_is_charged(self):
        for amount, day in ((10029, 60), (10030, 30), (5000, None)):
            self.assertEqual(ends_on(loan(), [30, 60], amount), day)

    def test_below_a_cent_nothing_is_owed(self):
        # The rate charges half a cent a day, which is rounded down.
        book = book_of([Out(0, 5000), Rate(0, CENT_A_DAY)])
        self.assertEqual(ends_on(book, [1, 2], 5000), 1)
        self.assertEqual(ends_on(book, [2, 3], 5000), 3)

    def test_nothing_owed_at_first_and_something_later(self):
        book = book_of([Out(15, 10000)])
        for amount in (0, 1, 10 ** 6):
            self.assertEqual(ends_on(book, [10, 20, 30], amount), 10)
        again = free_loan([Pay(5, 10000), Out(15, 500)])
        self.assertEqual([ends_on(again, days, 0) for days in ([3, 7, 20], [3, 20, 30], [20, 30])], [7, None, None])

    def test_only_on_the_days_themselves(self):
        book = free_loan([Pay(5, 10000), Out(6, 500)])
        self.assertIsNone(ends_on(book, [3, 7, 9], 0))
        self.assertEqual(ends_on(book, [3, 7, 9], 250), 7)

    def test_a_book_without_lendings(self):
        for entries in ([], [Rate(0, 500), Due(3, 50), Late(0, 99), Turn(5), Still(2, 9)], [Pay(3, 5)]):
            for amount in (0, 5):
                self.assertEqual(ends_on(book_of(entries), [4, 8, LAST], amount), 4)
        self.assertIsNone(ends_on(book_of([Fee(3, 50)]), [4, 8], 24))
        self.assertEqual(ends_on(book_of([Fee(3, 50)]), [4, 8], 25), 8)

    def test_a_credit(self):
        self.assertEqual(ends_on(free_loan([Pay(3, 20000)]), [2, 4, 9], 0), 4)

    def test_day_by_day(self):
        found = {True: 0, False: 0}
        for chance, book, days in some_books(211, 4):
            for amount in (0, 1, 20, chance.randrange(10 ** 4), 10 ** 6):
                much = owed_by_words(book, evenly(days, amount), days)
                wanted = next((day for day, each in zip(days, much) if each <= 0), None)
                self.assertEqual(ends_on(book, days, amount), wanted)
                found[wanted is None] += 1
        self.assertGreater(min(found.values()), 20)

    def test_360_days_of_a_full_book(self):
        chance = random.Random(212)
        entries = some_entries(chance, 138, 400, WORDS, 0, 100) + [Out(0, 10 ** 6), Rate(0, 900)]
        book = book_of(entries, 3)
        days = list(range(1, 721, 2))
        for amount in (0, 3000, 10 ** 5):
            wanted = next((day for day in days if owed(with_pays(book, days, amount), day) <= 0), None)
            self.assertEqual(ends_on(book, days, amount), wanted)


class LeastEvenByHand(unittest.TestCase):
    def test_without_a_rate(self):
        for many, least in ((1, 10000), (2, 5000), (3, 3334), (4, 2500), (7, 1429), (360, 28)):
            self.assertEqual(least_even(free_loan(), list(range(5, 5 + many))), least)

    def test_with_a_rate(self):
        # Of 10100 a sum s leaves 10100 - s, and a hundredth more of that: s is paid from it, and 0.25 are left.
        self.assertEqual(least_even(loan(), [100, 200]), 5075)
        self.assertEqual(least_even(loan(), [0, 100]), 5025)

    def test_of_one_day_what_is_owed_there(self):
        for day in (0, 1, 30, LAST):
            self.assertEqual(least_even(loan(), [day]), 10000 + day)
        self.assertEqual(least_even(loan([Pay(30, 1030)]), [30]), 9000)
        self.assertEqual(least_even(book_of([Out(9, 500)]), [8]), 0)

    def test_0_where_nothing_is_owed(self):
        for entries in ([], [Pay(3, 5)], [Rate(0, 5), Due(3, 9), Late(0, 9), Still(4, 8), Turn(3)], [Out(50, 10)],
                        [Out(0, 10), Pay(9, 10)], [Out(0, 10), Pay(9, 99)], [Out(0, 10), Fee(9, -10)]):
            for days in ([9], [5, 9, 20], [0, 1, 49]):
                self.assertEqual(least_even(book_of(entries), days), 0)

    def test_only_the_last_day_counts(self):
        # On day 5 much is owed, on day 9 nothing; and the other way round.
        self.assertEqual(least_even(free_loan([Pay(9, 10000)]), [5, 9]), 0)
        self.assertEqual(least_even(book_of([Out(9, 10000)]), [5, 9]), 5000)

    def test_deeds_of_the_books_own_between(self):
        self.assertEqual(least_even(free_loan([Out(15, 500), Fee(15, 50), Pay(15, 30)]), [10, 20]), 5260)
        self.assertEqual(least_even(free_loan([Turn(15), Fee(20, 50), Pay(20, 30)]), [10, 20]), 5010)

    def test_deeds_behind_the_last_day_do_not_matter(self):
        more = [Out(21, 500), Fee(22, 50), Pay(23, 30), Turn(24), Rate(21, 10 ** 6), Due(22, 9), Still(20, 30)]
        self.assertEqual(least_even(free_loan(more), [10, 20]), 5000)

    def test_what_is_paid_lowers_what_is_behind(self):
        book = book_of([Out(0, 100000), Late(0, 10 * CENT_A_DAY), Due(10, 60000)])
        # Ten cents of 10000 behind a day, for ten days: with s paid on day 10 as much as a hundredth of 60000 - s.
        self.assertEqual(least_even(book, [10, 20]), 50050)

    def test_above_the_greatest_amount(self):
        much = book_of([Out(0, 10 ** 12)] * 499)
        self.assertEqual(least_even(much, [7]), 499 * 10 ** 12)
        self.assertEqual(least_even(book_of([Out(0, 10 ** 12)] * 9), [7, 9]), 4500000000000)
        rate = book_of([Out(0, 10 ** 12), Rate(0, 10 ** 6)])
        self.assertEqual(least_even(rate, [365 * 20]), 2001 * 10 ** 12)

    def test_turned_again_and_again(self):
        # Each year all is turned, and what is owed comes to 101 times as much.
        years = 60
        book = book_of([Out(0, 10 ** 12), Rate(0, 10 ** 6)] + [Turn(365 * year) for year in range(1, years)])
        self.assertEqual(least_even(book, [365 * years]), 10 ** 12 * 101 ** years)
        self.assertEqual(least_once(book, 365 * years, 365 * years), 10 ** 12 * 101 ** years)
        self.assertEqual(least_once(book, 0, 365 * years), 10 ** 12)

    def test_a_little_paid_soon_where_what_is_owed_without_has_hundreds_of_figures(self):
        turns = [Turn(2000 * place) for place in range(1, 498)]
        for lent in (1, 999999, 10 ** 6, 10 ** 6 + 1, 10 ** 12 - 1, 10 ** 12):
            tally = Tally()
            book = Book(tally, 0, [Out(0, lent), Rate(0, 10 ** 6)] + turns)
            if lent == 10 ** 12:
                self.assertGreater(owed(book, LAST), 10 ** 1300)
            self.assertEqual(least_once(book, 0, LAST), lent)
            # Some forty halves of a million million, not thousands of them, each over five hundred stretches.
            self.assertLess(tally.asked, 200 * 500 * 2)

    def test_around_the_powers_of_ten(self):
        for figures in (1, 5, 6, 7, 11, 12):
            for lent in (10 ** figures - 1, 10 ** figures, min(10 ** 12, 10 ** figures + 1)):
                book = book_of([Out(0, lent)])
                self.assertEqual((least_once(book, 3, 9), least_even(book, [3, 9])), (lent, -(-lent // 2)))
                much = book_of([Out(0, lent)] * 300)
                self.assertEqual((least_once(much, 3, 9), least_even(much, [3, 9])), (300 * lent, 150 * lent))

    def test_kinds_of_what_is_told(self):
        for book in (loan(), book_of([])):
            self.assertIs(type(least_even(book, [3, 9])), int)
            self.assertIs(type(least_once(book, 3, 9)), int)


class LeastEvenByWords(unittest.TestCase):
    def test_the_very_least_of_small_books(self):
        above = 0
        for chance, book, days in some_books(221, 5, (1,)):
            least = 0
            while owed_by_words(book, evenly(days, least), days[-1:])[0] > 0 and least < 40:
                least += 1
            if least < 40:
                above += least > 0
                self.assertEqual(least_even(book, days), least)
        self.assertGreater(above, 8)

    def test_enough_and_one_cent_less_is_not(self):
        above = 0
        for chance, book, days in some_books(222, 5):
            least = least_even(book, days)
            for more in (0, 1, 2, chance.randrange(10 ** 4), 10 ** 9):
                self.assertLessEqual(owed_by_words(book, evenly(days, least + more), days[-1:])[0], 0)
            if least > 0:
                above += 1
                for amount in (least - 1, least // 2):
                    self.assertGreater(owed_by_words(book, evenly(days, amount), days[-1:])[0], 0)
        self.assertGreater(above, 10)

    def test_of_one_day_what_is_owed_there(self):
        for chance, book, days in some_books(223, 4):
            self.assertEqual(least_even(book, days[:1]), max(0, owed(book, days[0])))

    def test_no_more_than_what_is_owed_without(self):
        for chance, book, days in some_books(224, 4):
            self.assertLessEqual(least_even(book, days), max(0, owed(book, days[-1])))

    def test_what_ends_on_the_last_day(self):
        for chance, book, days in some_books(225, 3):
            least = least_even(book, days)
            self.assertIsNotNone(ends_on(book, days, least))
            if least > 0 and ends_on(book, days, least - 1) is not None:
                self.assertLess(ends_on(book, days, least - 1), days[-1])

    def test_360_days_beside_140_entries(self):
        chance = random.Random(226)
        for name in NAMES:
            more = [Out(0, 10 ** 9), Rate(0, 450), Late(0, 900), Due(40, 10 ** 7), Turn(365), Still(90, 120)]
            book = Book(count_named(name), 5, some_entries(chance, 134, 9000, WORDS, 0, 1000) + more)
            days = list(range(30, 10830, 30))
            least = least_even(book, days)
            self.assertGreater(least, 0)
            self.assertLessEqual(owed(with_pays(book, days, least), days[-1]), 0)
            self.assertLessEqual(owed(with_pays(book, days, least + 1), days[-1]), 0)
            self.assertGreater(owed(with_pays(book, days, least - 1), days[-1]), 0)


class LeastOnce(unittest.TestCase):
    def test_for_a_day_and_itself(self):
        for day in (0, 1, 30, LAST):
            self.assertEqual(least_once(loan(), day, day), 10000 + day)
        self.assertEqual(least_once(loan([Pay(30, 1030)]), 30, 30), 9000)

    def test_for_a_later_one(self):
        # All that is owed on the day: from then on nothing is charged.
        self.assertEqual(least_once(loan(), 0, 30), 10000)
        self.assertEqual(least_once(loan(), 10, 30), 10010)
        self.assertEqual(least_once(loan(), 30, LAST), 10030)

    def test_a_rest_below_a_cent_may_stay(self):
        # One cent that is left comes to one and a half up to day 5000, and there the book itself pays one.
        rest = book_of([Out(0, 10000), Rate(0, CENT_A_DAY), Pay(5000, 1)])
        self.assertEqual(least_once(rest, 0, 5000), 9999)
        self.assertEqual(least_once(rest, 0, 4999), 10000)

    def test_lendings_behind_the_day(self):
        self.assertEqual(least_once(free_loan([Out(15, 500), Pay(17, 20)]), 10, 20), 10480)
        self.assertEqual(least_once(free_loan([Out(15, 500), Pay(17, 20)]), 10, 16), 10500)
        self.assertEqual(least_once(free_loan([Out(15, 500), Pay(17, 20)]), 10, 14), 10000)
        self.assertEqual(least_once(book_of([Out(15, 500)]), 3, 20), 500)

    def test_0_where_nothing_is_owed(self):
        for entries in ([], [Pay(3, 5)], [Out(50, 10)], [Out(0, 10), Pay(9, 10)], [Out(0, 10), Pay(20, 99)]):
            for day in (0, 9, 20):
                self.assertEqual(least_once(book_of(entries), day, 20), 0)

    def test_above_the_greatest_amount(self):
        self.assertEqual(least_once(book_of([Out(0, 10 ** 12)] * 499), 3, 7), 499 * 10 ** 12)

    def test_enough_and_one_cent_less_is_not(self):
        above = 0
        for chance, book, days in some_books(231, 5):
            day, until = days[0], days[-1]
            least = least_once(book, day, until)
            for more in (0, 1, chance.randrange(10 ** 4), 10 ** 9):
                self.assertLessEqual(owed_by_words(book, evenly([day], least + more), [until])[0], 0)
            if least > 0:
                above += 1
                for amount in (least - 1, least // 2):
                    self.assertGreater(owed_by_words(book, evenly([day], amount), [until])[0], 0)
        self.assertGreater(above, 10)

    def test_for_a_day_and_itself_it_is_the_least_even_sum(self):
        for chance, book, days in some_books(232, 3):
            self.assertEqual(least_once(book, days[-1], days[-1]), least_even(book, days[-1:]))

    def test_the_first_and_the_last_day(self):
        self.assertEqual(least_once(free_loan(), 0, LAST), 10000)
        self.assertEqual(least_once(book_of([Out(LAST, 7)]), LAST, LAST), 7)
        self.assertEqual(least_once(book_of([Out(LAST, 7)]), LAST - 1, LAST), 7)


def sooner(chance, days, amount):
    """Pays by which, on each of the days, as much was paid as by the even sum, or more: in parts, some ahead."""
    pays = []
    for day in days:
        for part in split(chance, amount):
            pays.append((chance.choice((day, day, max(0, day - chance.randrange(12)), days[0], 0)), part))
    if chance.randrange(2):
        pays.append((chance.choice(days), chance.randrange(1, 50)))
    chance.shuffle(pays)
    return pays


def rather_later(chance, days, amount):
    """Pays by which, on each day, no more was paid than by the even sum: in parts, some behind, some not at all."""
    pays = []
    for day in days:
        for part in split(chance, amount):
            pays.append((chance.choice((day, day, day + chance.randrange(12), days[-1], days[-1] + 5)), part))
    if chance.randrange(2) and pays:
        pays.pop()
    chance.shuffle(pays)
    return pays


class WhoeverHasPaid(unittest.TestCase):
    def test_as_much_or_more_by_each_of_the_days(self):
        for chance, book, days in some_books(241, 4):
            least = least_even(book, days)
            for pays in (sooner(chance, days, least), sooner(chance, days, least)):
                paid = book.with_more([Pay(day, part) for day, part in pays])
                self.assertLessEqual(owed(paid, days[-1]), 0)

    def test_no_more_than_by_one_cent_less(self):
        above = 0
        for chance, book, days in some_books(242, 4):
            least = least_even(book, days)
            if least > 0:
                above += 1
                for pays in (rather_later(chance, days, least - 1), rather_later(chance, days, least - 1)):
                    paid = book.with_more([Pay(day, part) for day, part in pays])
                    self.assertGreater(owed(paid, days[-1]), 0)
        self.assertGreater(above, 10)

    def test_all_at_once_on_the_first_day(self):
        for chance, book, days in some_books(243, 4):
            least = least_even(book, days)
            if least > 0:
                paid = book.with_more([Pay(days[0], least * len(days))])
                self.assertLessEqual(owed(paid, days[-1]), 0)
                self.assertLessEqual(least_once(book, days[0], days[-1]), least * len(days))
                late = book.with_more([Pay(days[-1], (least - 1) * len(days))])
                self.assertGreater(owed(late, days[-1]), 0)

    def test_told_as_one_or_as_several(self):
        for chance, book, days in some_books(244, 3):
            least = least_even(book, days)
            for amount in (least, max(0, least - 1)):
                parts = [Pay(day, part) for day in days for part in split(chance, amount)]
                chance.shuffle(parts)
                self.assertEqual(owed(book.with_more(parts), days[-1]), owed(with_pays(book, days, amount), days[-1]))


class Refused(unittest.TestCase):
    def deeds(self):
        """What is told a book and days, each with what else it is told."""
        return [(with_pays, (0,)), (with_pays, (5,)), (ends_on, (0,)), (ends_on, (5,)), (least_even, ())]

    def test_whatever_is_no_list_of_days(self):
        for deed, more in self.deeds():
            for book in (book_of([]), loan(), full(500)):
                for days in lists_of_no_days():
                    assert_refused(self, NoDays, deed, book, days, *more)

    def test_from_one_to_360(self):
        for deed, more in self.deeds():
            for many in (1, 2, 359, 360):
                deed(loan(), list(range(many)), *more)
            assert_refused(self, NoDays, deed, loan(), [], *more)
            assert_refused(self, NoDays, deed, loan(), list(range(361)), *more)

    def test_too_many(self):
        for deed, more in self.deeds():
            for many, days in ((500, 1), (499, 2), (141, 360), (400, 101), (500, 360)):
                for entry in (Pay(3, 5), Out(3, 5), Rate(3, 5), Still(3, 5), Due(3, 5)):
                    assert_refused(self, TooMany, deed, book_of([entry] * many), list(range(days)), *more)

    def test_500_together(self):
        for many, days in ((499, 1), (498, 2), (140, 360), (400, 100)):
            book = book_of([Out(0, 5)] * many)
            listed = list(range(days))
            self.assertEqual(len(with_pays(book, listed, 1).entries()), 500)
            self.assertEqual(len(with_pays(book, listed, 0).entries()), many)
            self.assertEqual(ends_on(book, listed, 5 * many), 0)
            self.assertIsNone(ends_on(book, listed, 0))
            self.assertEqual(least_even(book, listed), -(-5 * many // days))

    def test_no_days_comes_first(self):
        for deed, more in self.deeds():
            for days in ([], [5, 5], [6, 5], [True], None, list(range(361))):
                assert_refused(self, NoDays, deed, full(500), days, *more)
            assert_refused(self, TooMany, deed, full(500), [5], *more)

    def test_least_once_of_what_is_no_day(self):
        for book in (book_of([]), loan(), full(500)):
            for thing in things_no_days():
                assert_refused(self, NoDays, least_once, book, thing, 9)
                assert_refused(self, NoDays, least_once, book, 9, thing)
                assert_refused(self, NoDays, least_once, book, thing, thing)
                assert_refused(self, NoDays, least_once, book, [9], thing)

    def test_least_once_of_a_day_behind(self):
        for book in (book_of([]), loan(), full(500)):
            for day, until in ((9, 8), (1, 0), (LAST, 0), (LAST, LAST - 1)):
                assert_refused(self, NoDays, least_once, book, day, until)

    def test_least_once_of_a_full_book(self):
        for entry in (Pay(3, 5), Out(3, 5), Rate(3, 5), Still(3, 5), Due(3, 5)):
            for day, until in ((0, 0), (9, 20), (LAST, LAST)):
                assert_refused(self, TooMany, least_once, book_of([entry] * 500), day, until)
        self.assertEqual(least_once(book_of([Out(3, 5)] * 499), 9, 20), 2495)

    def test_what_is_refused_stays(self):
        book, days = loan(), [5, 9, 7]
        kept = told_by(book)
        for deed, more in self.deeds():
            assert_refused(self, NoDays, deed, book, days, *more)
        self.assertEqual((days, told_by(book)), ([5, 9, 7], kept))


class Kept(unittest.TestCase):
    def test_the_book_and_the_days_stay(self):
        for chance, book, days in some_books(251, 2):
            kept, kept_days = told_by(book), list(days)
            first = (rows_of(with_pays(book, days, 5).entries()), ends_on(book, days, 5), least_even(book, days),
                     least_once(book, days[0], days[-1]))
            self.assertEqual((told_by(book), days), (kept, kept_days))
            again = (rows_of(with_pays(book, days, 5).entries()), ends_on(book, days, 5), least_even(book, days),
                     least_once(book, days[0], days[-1]))
            self.assertEqual(again, first)

    def test_days_changed_behind(self):
        for amount in (0, 5):
            days = [30, 60]
            told = with_pays(loan(), days, amount)
            kept = told_by(told)
            days.append(90)
            days[0] = 1
            self.assertEqual(told_by(told), kept)

    def test_what_is_done_with_the_told_book(self):
        book = loan()
        kept = told_by(book)
        told = with_pays(book, [30, 60], 5)
        told.entries().clear()
        told.pays().clear()
        with_pays(told, [70], 9)
        self.assertEqual(told_by(book), kept)
        self.assertEqual(told.pays(), [(30, 5), (60, 5)])


if __name__ == "__main__":
    unittest.main()
