import itertools
import random
import unittest

from loanroll.accounts import account, charged, owed
from loanroll.books import Book
from loanroll.counts import Bank, Count, Exact, Thirty, count_named
from loanroll.days import day_of
from loanroll.debts import Debt
from loanroll.entries import Due, Fee, Late, Out, Pay, Rate, Still, Turn
from tests.refusals import WORDS, DayByDay, Tally, some_entries

END = 1000000
LAST = 999999
NAMES = ("plain", "bank", "thirty", "exact")
GRACES = (0, 3, 366)
# By a rate of so many, 10000 cents are charged one cent a day where a year weighs 365.
CENT_A_DAY = 365
CENT = 3650000
FIRSTS = (0, day_of(2001, 1, 20), day_of(2003, 11, 10), day_of(2007, 12, 25))


def book_of(entries, grace=0):
    return Book(Count(), grace, entries)


def stands_at(book, day):
    debt = account(book, day)
    return debt.principal(), debt.units()


def in_cents(book, day):
    """The principal and what is owed, where that is whole cents."""
    debt = account(book, day)
    assert debt.rest() == 0, "the numbers of this case are to leave no rest"
    return debt.principal(), debt.owed()


def some_book(chance, many, name, grace, first, words=WORDS):
    entries = some_entries(chance, many, 120, words, first, chance.choice((1, 1000, 1000000)))
    return entries, Book(count_named(name), grace, entries)


def rows_of(entries):
    return [entry.row() for entry in entries]


class ChargedByHand(unittest.TestCase):
    def test_one_rate(self):
        book = book_of([Rate(10, 375)])
        rows = [(0, 10, 0), (0, 11, 375), (9, 12, 750), (10, 20, 3750), (11, 20, 3375), (0, LAST, 375 * (LAST - 10))]
        for a, b, each in rows:
            self.assertEqual(charged(book, 1, a, b), each)
            self.assertEqual(charged(book, 10000, a, b), each * 10000)
            self.assertIs(type(charged(book, 1, a, b)), int)

    def test_rates_that_change(self):
        book = book_of([Rate(10, 3), Rate(20, 0), Rate(30, 5), Rate(30, 7)])
        self.assertEqual(charged(book, 2, 0, 40), 2 * (10 * 3 + 10 * 7))
        self.assertEqual(charged(book, 2, 19, 31), 2 * (3 + 7))

    def test_days_that_stand_still(self):
        book = book_of([Rate(0, 3), Still(5, 10), Still(8, 12), Still(20, 21)])
        self.assertEqual(charged(book, 2, 0, 30), 6 * (30 - 8))
        self.assertEqual([charged(book, 2, day, day + 1) for day in (4, 5, 11, 12, 19, 20, 21)], [6, 0, 0, 6, 6, 0, 6])

    def test_a_late_rate_on_the_less(self):
        book = book_of([Late(0, 10), Due(5, 40)])
        self.assertEqual([charged(book, much, 5, 6) for much in (0, 1, 39, 40, 41, 10 ** 12)],
                         [0, 10, 390, 400, 400, 400])
        self.assertEqual(charged(book, 100, 4, 5), 0)

    def test_rate_and_late_rate_together(self):
        book = book_of([Rate(0, 3), Late(7, 10), Due(5, 40)])
        self.assertEqual(charged(book, 100, 0, 10), 10 * 300 + 3 * 400)
        self.assertEqual(charged(book, 30, 0, 10), 10 * 90 + 3 * 300)

    def test_what_is_behind_changes_between(self):
        entries = [Late(0, 10), Due(5, 40), Due(8, 20), Pay(7, 15), Pay(9, 100)]
        daily = {0: [0, 0, 0, 0, 0, 40, 40, 25, 45, 0, 0], 3: [0] * 8 + [25, 0, 0]}
        for grace, days in daily.items():
            book = book_of(entries, grace)
            self.assertEqual([charged(book, 1000, day, day + 1) for day in range(11)], [10 * much for much in days])
            self.assertEqual(charged(book, 1000, 0, 100), 10 * sum(days))

    def test_the_most_grace(self):
        book = book_of([Late(0, 10), Due(0, 40), Due(2, 7), Pay(367, 15)], 366)
        self.assertEqual([charged(book, 1000, day, day + 1) for day in (0, 365, 366, 367, 368, 369)],
                         [0, 0, 400, 250, 320, 320])
        self.assertEqual(charged(book, 1000, 0, 370), 400 + 250 + 320 * 2)

    def test_a_due_that_stood_still(self):
        book = book_of([Late(0, 10), Due(5, 40), Still(4, 8)], 2)
        self.assertEqual([charged(book, 1000, day, day + 1) for day in (5, 7, 8, 9, 10, 11)], [0, 0, 0, 0, 400, 400])

    def test_behind_over_days_that_stand_still(self):
        book = book_of([Late(0, 10), Due(5, 40), Still(6, 9), Pay(7, 15)])
        self.assertEqual([charged(book, 1000, day, day + 1) for day in (5, 6, 7, 8, 9)], [400, 0, 0, 0, 250])

    def test_lendings_fees_and_turns_do_not_matter(self):
        entries = [Rate(2, 3), Late(0, 10), Due(5, 40), Pay(9, 1)]
        more = [Out(3, 10 ** 6), Fee(4, 77), Turn(5), Out(6, 5)]
        for principal in (0, 1, 100):
            self.assertEqual(charged(book_of(entries + more), principal, 0, 50),
                             charged(book_of(entries), principal, 0, 50))

    def test_of_a_principal_of_0(self):
        book = book_of([Rate(0, 3), Late(0, 10), Due(5, 40)])
        for a, b in ((0, 10), (0, END), (5, 6)):
            self.assertEqual(charged(book, 0, a, b), 0)

    def test_a_not_below_b(self):
        book = book_of([Rate(0, 3), Late(0, 10), Due(5, 40)])
        for a, b in ((0, 0), (5, 5), (6, 5), (7, 0), (END, 0), (END, END), (LAST, LAST), (END, LAST), (LAST, 5)):
            self.assertEqual(charged(book, 100, a, b), 0)

    def test_up_to_the_day_behind_the_last_one(self):
        book = book_of([Rate(0, 3), Late(0, 10), Due(5, 40)])
        self.assertEqual(charged(book, 100, LAST, END), 700)
        self.assertEqual(charged(book, 100, 0, END), 300 * END + 400 * (END - 5))
        still = book_of([Rate(0, 3), Still(5, END)])
        self.assertEqual((charged(still, 100, 0, END), charged(still, 100, LAST, END)), (1500, 0))

    def test_a_due_whose_grace_ends_behind_the_last_day(self):
        for grace, late in ((0, 2), (1, 1), (2, 0), (366, 0)):
            book = book_of([Late(0, 10), Due(LAST - 1, 40)], grace)
            self.assertEqual(charged(book, 1000, 0, END), 400 * late)
        self.assertEqual(charged(book_of([Late(0, 10), Due(5, 40), Still(5, END)]), 1000, 0, END), 0)

    def test_of_a_book_without_entries(self):
        for name in NAMES:
            for a, b in ((0, 1), (0, END), (LAST, END), (7, 3)):
                self.assertEqual(charged(Book(count_named(name), 3, []), 10 ** 12, a, b), 0)

    def test_by_each_count(self):
        february = (day_of(2023, 2, 1), day_of(2023, 3, 1))
        for count, weight in ((Count(), 28), (Bank(), 28), (Thirty(), 30), (Exact(), 28 * 366)):
            self.assertEqual(charged(Book(count, 0, [Rate(0, 375)]), 100, *february), 37500 * weight)


class ChargedDayByDay(unittest.TestCase):
    def test_many_books(self):
        chance = random.Random(71)
        words = ("pay", "due", "due", "rate", "late", "still")
        for name, grace, first in itertools.product(NAMES, (0, 3, 40), FIRSTS):
            entries, book = some_book(chance, chance.randrange(40), name, grace, first, words)
            walk = DayByDay(book.count(), grace, rows_of(entries))
            for _ in range(4):
                principal = chance.choice((0, 1, 17, 1000, 10 ** 6, 10 ** 12))
                a = first + chance.randrange(150)
                b = a + chance.randrange(150)
                self.assertEqual(charged(book, principal, a, b), walk.charges(principal, a, b))

    def test_with_the_most_grace(self):
        chance = random.Random(72)
        for name in NAMES:
            entries, book = some_book(chance, 30, name, 366, 0, ("pay", "due", "due", "due", "late", "still"))
            walk = DayByDay(book.count(), 366, rows_of(entries))
            self.assertGreater(charged(book, 10 ** 6, 0, 500), 0)
            self.assertEqual(charged(book, 10 ** 6, 0, 500), walk.charges(10 ** 6, 0, 500))

    def test_the_last_days(self):
        chance = random.Random(73)
        for name, grace in itertools.product(NAMES, GRACES):
            entries, book = some_book(chance, 30, name, grace, LAST - 119, ("pay", "due", "rate", "late"))
            entries.append(Still(LAST - 10, LAST - 4))
            book = book.with_more(entries[-1:])
            walk = DayByDay(book.count(), grace, rows_of(entries))
            self.assertEqual(charged(book, 10 ** 6, LAST - 150, END), walk.charges(10 ** 6, LAST - 150, END))

    def test_charges_add(self):
        chance = random.Random(74)
        for name, grace in itertools.product(NAMES, GRACES):
            entries, book = some_book(chance, 40, name, grace, 0)
            for principal in (1, 500, 10 ** 7):
                a, c, b = sorted(chance.randrange(130) for _ in range(3))
                parts = charged(book, principal, a, c) + charged(book, principal, c, b)
                self.assertEqual(parts, charged(book, principal, a, b))
                days = [charged(book, principal, day, day + 1) for day in range(a, b)]
                self.assertEqual(sum(days), charged(book, principal, a, b))
                far = charged(book, principal, a, b) + charged(book, principal, b, END)
                self.assertEqual(far, charged(book, principal, a, END))


class AccountByHand(unittest.TestCase):
    def test_a_cent_a_day(self):
        book = book_of([Out(10, 10000), Rate(0, CENT_A_DAY)])
        rows = [(0, 0, 0), (9, 0, 0), (10, 10000, 10000), (11, 10000, 10001), (20, 10000, 10010),
                (LAST, 10000, 10000 + LAST - 10)]
        for day, principal, much in rows:
            self.assertEqual(in_cents(book, day), (principal, much))
            self.assertEqual(owed(book, day), much)

    def test_kinds_of_what_is_told(self):
        book = book_of([Out(10, 10000)])
        self.assertIs(type(account(book, 10)), Debt)
        self.assertIs(type(owed(book, 10)), int)

    def test_a_cent_has_as_many_units_as_the_count_tells(self):
        for name in NAMES:
            count = count_named(name)
            debt = account(Book(count, 0, [Out(10, 7)]), 12)
            self.assertEqual((debt.units(), debt.owed()), (7 * count.unit(), 7))
            debt.grow(count.unit())
            self.assertEqual(debt.owed(), 8)

    def test_what_is_paid_goes_to_the_interest_first(self):
        loan = [Out(10, 10000), Rate(0, CENT_A_DAY)]
        for paid, principal in ((1, 10000), (9, 10000), (10, 10000), (11, 9999), (110, 9900), (10009, 1), (10010, 0)):
            self.assertEqual(in_cents(book_of(loan + [Pay(20, paid)]), 20), (principal, 10010 - paid))

    def test_then_it_stands_as_a_credit(self):
        book = book_of([Out(10, 10000), Rate(0, CENT_A_DAY), Pay(20, 10510)])
        for day in (20, 21, 50, LAST):
            debt = account(book, day)
            self.assertEqual((debt.principal(), debt.owed(), debt.credit()), (0, -500, 500))
            self.assertEqual(owed(book, day), -500)

    def test_lendings_and_fees_eat_a_credit(self):
        loan = [Out(10, 10000), Rate(0, CENT_A_DAY), Pay(20, 10510)]
        self.assertEqual(in_cents(book_of(loan + [Out(30, 400)]), 30), (0, -100))
        self.assertEqual(in_cents(book_of(loan + [Out(30, 500)]), 31), (0, 0))
        self.assertEqual(in_cents(book_of(loan + [Out(30, 10500)]), 30), (10000, 10000))
        self.assertEqual(in_cents(book_of(loan + [Out(30, 10500)]), 40), (10000, 10010))
        self.assertEqual(in_cents(book_of(loan + [Fee(30, 499)]), 40), (0, -1))
        self.assertEqual(in_cents(book_of(loan + [Fee(30, 700)]), 40), (0, 200))
        self.assertEqual(in_cents(book_of(loan + [Fee(30, 200), Out(35, 400)]), 35), (100, 100))
        self.assertEqual(in_cents(book_of(loan + [Out(30, 400), Fee(35, 200)]), 35), (0, 100))

    def test_a_fee_is_owed_but_no_principal(self):
        book = book_of([Out(10, 10000), Rate(0, CENT_A_DAY), Fee(15, 40)])
        self.assertEqual([in_cents(book, day) for day in (14, 15, 16)],
                         [(10000, 10004), (10000, 10045), (10000, 10046)])

    def test_a_fee_below_0_lowers_the_principal_behind_the_interest(self):
        loan = [Out(10, 10000), Rate(0, CENT_A_DAY)]
        for much, principal in ((-4, 10000), (-5, 10000), (-6, 9999), (-10005, 0), (-10006, 0)):
            self.assertEqual(in_cents(book_of(loan + [Fee(15, much)]), 15), (principal, 10005 + much))

    def test_a_turn_makes_interest_and_fees_principal(self):
        book = book_of([Out(0, 10000), Rate(0, CENT_A_DAY), Fee(100, 9900), Turn(100)])
        self.assertEqual([in_cents(book, day) for day in (99, 100, 101, 110)],
                         [(10000, 10099), (20000, 20000), (20000, 20002), (20000, 20020)])

    def test_a_turn_of_a_credit(self):
        book = book_of([Out(0, 10000), Pay(1, 10500), Turn(2)])
        self.assertEqual(in_cents(book, 2), (0, -500))

    def test_ahead_of_the_days_charge(self):
        book = book_of([Out(10, 10000), Rate(10, CENT_A_DAY), Pay(12, 5001), Out(12, 5000)])
        self.assertEqual([owed(book, day) for day in (10, 11, 12, 13)], [10000, 10001, 10001, 10002])
        late = book_of([Out(0, 10000), Late(0, CENT_A_DAY), Due(5, 10000), Pay(7, 10001)])
        self.assertEqual([owed(late, day) for day in (5, 6, 7, 8)], [10000, 10001, 1, 1])

    def test_days_that_stand_still_charge_nothing(self):
        book = book_of([Out(0, 10000), Rate(0, CENT_A_DAY), Still(5, 10)])
        self.assertEqual([owed(book, day) for day in (4, 5, 6, 9, 10, 11)],
                         [10004, 10005, 10005, 10005, 10005, 10006])

    def test_deeds_on_days_that_stand_still_are_done(self):
        book = book_of([Still(0, 100), Rate(0, 500), Out(5, 100), Fee(6, 7), Turn(7), Pay(8, 50)])
        self.assertEqual([in_cents(book, day) for day in (5, 6, 7, 8, 99)],
                         [(100, 100), (100, 107), (107, 107), (57, 57), (57, 57)])

    def test_what_is_behind_is_charged_besides(self):
        loan = [Out(0, 10000), Late(0, 10 * CENT_A_DAY), Due(5, 3000), Due(8, 2000), Pay(10, 4000)]
        self.assertEqual([owed(book_of(loan), day) for day in (5, 6, 7, 8, 9, 10, 11)],
                         [10000, 10003, 10006, 10009, 10014, 6019, 6020])
        self.assertEqual([owed(book_of(loan, 3), day) for day in (5, 8, 9, 10, 11, 12)],
                         [10000, 10000, 10003, 6006, 6006, 6007])
        # More is asked than was lent: no more than the principal is charged for.
        much = book_of([Out(0, 10000), Late(0, CENT_A_DAY), Due(5, 90000)])
        self.assertEqual(owed(much, 7), 10002)

    def test_rest_of_a_cent_is_kept(self):
        book = book_of([Out(0, 1), Rate(0, 1)])
        for day in (0, 1, 2, LAST):
            self.assertEqual(stands_at(book, day), (1, CENT + day))

    def test_ahead_of_the_first_deed(self):
        entries = [Rate(0, 375), Late(0, 800), Due(1, 50), Still(3, 9), Out(20, 100)]
        for day in (0, 1, 5, 19):
            self.assertEqual(stands_at(book_of(entries), day), (0, 0))
            self.assertEqual(owed(book_of(entries), day), 0)
        self.assertEqual(stands_at(book_of(entries), 20), (100, 100 * CENT))

    def test_of_a_book_without_entries_or_without_deeds(self):
        for entries in ([], [Rate(0, 375), Late(0, 800), Due(1, 50), Still(3, 9)]):
            for day in (0, 1, 400, LAST):
                self.assertEqual(stands_at(book_of(entries), day), (0, 0))
                self.assertEqual(owed(book_of(entries), day), 0)

    def test_deeds_on_the_first_and_on_the_last_day(self):
        book = book_of([Out(0, 10000), Rate(0, CENT_A_DAY), Out(LAST, 5), Pay(LAST, 9)])
        self.assertEqual(in_cents(book, 0), (10000, 10000))
        self.assertEqual(in_cents(book, LAST), (10005, 10000 + LAST + 5 - 9))
        self.assertEqual(in_cents(book, LAST - 1), (10000, 10000 + LAST - 1))


class DeedsOfOneDay(unittest.TestCase):
    def told_in_every_order(self, ahead, entries, day, principal, much):
        for order in itertools.permutations(entries):
            self.assertEqual(in_cents(book_of(ahead + list(order)), day), (principal, much))
            self.assertEqual(in_cents(book_of(list(order) + ahead), day), (principal, much))

    def test_all_four(self):
        loan = [Out(10, 10000), Rate(0, CENT_A_DAY)]
        self.told_in_every_order(loan, [Out(20, 500), Fee(20, 30), Turn(20), Pay(20, 5)], 20, 10535, 10535)

    def test_a_turn_comes_behind_the_fees(self):
        loan = [Out(10, 10000), Rate(0, CENT_A_DAY)]
        self.told_in_every_order(loan, [Fee(20, 30), Turn(20)], 20, 10040, 10040)

    def test_a_turn_comes_ahead_of_the_pays(self):
        loan = [Out(10, 10000), Rate(0, CENT_A_DAY)]
        self.told_in_every_order(loan, [Turn(20), Pay(20, 30), Fee(20, 7)], 20, 9987, 9987)

    def test_lendings_come_ahead_of_fees(self):
        credit = [Out(10, 100), Pay(12, 150)]
        self.told_in_every_order(credit, [Out(20, 100), Fee(20, 30)], 20, 50, 80)
        self.told_in_every_order([], [Out(20, 100), Fee(20, -30)], 20, 70, 70)

    def test_fees_come_ahead_of_pays(self):
        self.told_in_every_order([Out(10, 100)], [Fee(20, 30), Pay(20, 30)], 20, 100, 100)
        self.told_in_every_order([Out(10, 100)], [Fee(20, 30), Pay(20, 31)], 20, 99, 99)

    def test_each_as_one_sum(self):
        self.told_in_every_order([Out(10, 100)], [Fee(20, -50), Fee(20, 50)], 20, 100, 100)
        self.told_in_every_order([Out(10, 100)], [Fee(20, -60), Fee(20, 50), Fee(20, -1)], 20, 89, 89)
        self.told_in_every_order([Out(10, 100)], [Pay(20, 60), Pay(20, 60), Fee(20, 30)], 20, 10, 10)
        self.told_in_every_order([], [Out(20, 60), Out(20, 40), Pay(20, 130)], 20, 0, -30)

    def test_several_turns_are_one(self):
        loan = [Out(10, 10000), Rate(0, CENT_A_DAY)]
        self.told_in_every_order(loan, [Turn(20), Turn(20), Pay(20, 3)], 20, 10007, 10007)

    def test_of_several_rates_of_one_day_the_last_told(self):
        for rates in itertools.permutations((1, 2, 3)):
            entries = [Out(0, 10000)] + [Rate(5, CENT_A_DAY * rate) for rate in rates]
            self.assertEqual(owed(book_of(entries), 15), 10000 + 10 * rates[-1])
            late = [Out(0, 10000), Due(0, 10000)] + [Late(5, CENT_A_DAY * rate) for rate in rates]
            self.assertEqual(owed(book_of(late), 15), 10000 + 10 * rates[-1])


class AccountDayByDay(unittest.TestCase):
    def walked(self, entries, book, first, last):
        walk = DayByDay(book.count(), book.grace(), rows_of(entries))
        return walk.accounts(last, first)

    def test_books_with_all_kinds(self):
        chance = random.Random(75)
        for name, grace, first in itertools.product(NAMES, (0, 3, 30), FIRSTS):
            entries, book = some_book(chance, 10 + chance.randrange(60), name, grace, first)
            days = range(first, first + 160)
            told = [stands_at(book, day) for day in days]
            self.assertEqual(told, self.walked(entries, book, first, first + 159))
            self.assertEqual([owed(book, day) for day in days], [units // book.count().unit() for _, units in told])

    def test_many_deeds_on_few_days(self):
        chance = random.Random(76)
        for name in NAMES:
            for _ in range(10):
                entries = some_entries(chance, 60, 6, WORDS, 57, 1000)
                book = Book(count_named(name), 1, entries)
                self.assertEqual([stands_at(book, day) for day in range(57, 70)], self.walked(entries, book, 57, 69))

    def test_with_the_most_grace(self):
        chance = random.Random(77)
        for name in NAMES:
            entries, book = some_book(chance, 60, name, 366, 0, WORDS + ("out", "due"))
            days = range(0, 520, 7)
            walked = self.walked(entries, book, 0, 520)
            self.assertEqual([stands_at(book, day) for day in days], [walked[day] for day in days])

    def test_the_last_days(self):
        chance = random.Random(78)
        first = LAST - 125
        for name in NAMES:
            entries, book = some_book(chance, 60, name, 3, first)
            days = range(first, LAST + 1)
            self.assertEqual([stands_at(book, day) for day in days], self.walked(entries, book, first, LAST))

    def test_what_is_owed_is_rounded_down_once(self):
        chance = random.Random(79)
        for name, grace in itertools.product(NAMES, GRACES):
            entries, book = some_book(chance, 50, name, grace, 0)
            walk = DayByDay(book.count(), grace, rows_of(entries))
            unit = book.count().unit()
            charges = cents = 0
            for day, (principal, _) in enumerate(walk.accounts(150)):
                lent, fees, _, paid = walk.deeds(day)
                cents += lent + fees - paid
                self.assertEqual(owed(book, day), (cents * unit + charges) // unit)
                charges += walk.charge(principal, day)


class Order(unittest.TestCase):
    def told(self, entries, name, grace):
        book = Book(count_named(name), grace, entries)
        return [stands_at(book, day) for day in range(0, 140, 5)]

    def test_in_whatever_order_but_the_rates(self):
        chance = random.Random(80)
        for name, grace in itertools.product(NAMES, GRACES):
            entries = some_entries(chance, 50, 60, WORDS, 0, 1000)
            kept = self.told(entries, name, grace)
            for _ in range(4):
                mixed = chance.sample(entries, len(entries))
                rates = iter([entry for entry in entries if entry.word() in ("rate", "late")])
                # The rates in their own order, at the places at which some rate came to stand.
                mixed = [next(rates) if entry.word() in ("rate", "late") else entry for entry in mixed]
                self.assertEqual(self.told(mixed, name, grace), kept)

    def test_rates_of_unlike_days_in_whatever_order(self):
        entries = [Out(0, 10 ** 6), Due(3, 10 ** 5), Rate(0, 100), Rate(9, 700), Late(4, 300), Late(20, 50)]
        kept = self.told(entries, "plain", 3)
        for order in itertools.permutations(entries):
            self.assertEqual(self.told(list(order), "plain", 3), kept)

    def test_told_as_several_or_as_one(self):
        loan = [Out(0, 10 ** 6), Rate(0, 700), Late(0, 900), Due(5, 10 ** 4)]
        one = loan + [Pay(9, 600), Out(12, 50), Fee(13, 7)]
        several = loan + [Pay(9, 1), Pay(9, 599), Out(12, 20), Out(12, 30), Fee(13, 10), Fee(13, -3)]
        self.assertEqual(self.told(one, "exact", 0), self.told(several, "exact", 0))

    def test_over_however_many_days_at_once(self):
        chance = random.Random(81)
        for name, grace in itertools.product(NAMES, GRACES):
            entries = some_entries(chance, 40, 60, WORDS, 0, 1000)
            stops = [Fee(day, 0) for day in range(0, 140, 3)]
            self.assertEqual(self.told(entries + stops, name, grace), self.told(entries, name, grace))


class Far(unittest.TestCase):
    def full_book(self, count):
        chance = random.Random(82)
        return Book(count, 3, some_entries(chance, 500, 5000, WORDS, 0, 1000))

    def test_a_far_day_is_told_as_soon_as_a_near_one(self):
        count = Tally()
        book = self.full_book(count)
        asked = []
        for day in (6000, 20000, 500000, LAST):
            count.asked = 0
            account(book, day)
            asked.append(count.asked)
        self.assertEqual(asked, [asked[0]] * 4)
        # A few for each stretch, of which each entry begins or ends one or two.
        self.assertLess(asked[0], 10 * 500)

    def test_charges_of_far_days_as_well(self):
        count = Tally()
        book = self.full_book(count)
        asked = []
        for b in (6000, 20000, LAST, END):
            count.asked = 0
            charged(book, 10 ** 6, 0, b)
            asked.append(count.asked)
        self.assertEqual(asked, [asked[0]] * 4)
        self.assertLess(asked[0], 10 * 500)

    def test_entries_far_apart(self):
        for name in NAMES:
            count = count_named(name)
            day = 400000
            book = Book(count, 0, [Out(0, 10 ** 12), Rate(0, 10 ** 6), Turn(day), Late(day, 10 ** 6), Due(day, 5)])
            whole = count.weight(0, day) * 10 ** 18 + 10 ** 12 * count.unit()
            principal = whole // count.unit()
            self.assertEqual(stands_at(book, day), (principal, whole))
            rest = count.weight(day, LAST) * (10 ** 6 * principal + 10 ** 6 * 5)
            self.assertEqual(stands_at(book, LAST), (principal, whole + rest))

    def test_numbers_at_their_bounds(self):
        entries = [Out(0, 10 ** 12)] * 250 + [Pay(1, 10 ** 12)] * 250
        book = book_of(entries)
        self.assertEqual([owed(book, day) for day in (0, 1, LAST)], [250 * 10 ** 12, 0, 0])

    def test_numbers_beyond_their_bounds(self):
        book = book_of([Out(0, 10 ** 20), Rate(0, 10 ** 9), Still(4, 2 * END), Due(2, 10 ** 30), Late(0, 7), Pay(9, 3)])
        walk = DayByDay(Count(), 0, rows_of(book.entries()))
        self.assertEqual([stands_at(book, day) for day in range(12)], walk.accounts(11))
        self.assertEqual(charged(book, 5, 0, END), walk.charges(5, 0, 12))


class Kept(unittest.TestCase):
    def entries(self):
        return some_entries(random.Random(83), 60, 60, WORDS, 0, 1000)

    def told_by(self, book):
        return (book.entries(), rows_of(book.entries()), book.outs(), book.fees(), book.pays(), book.turns(),
                book.rates(), book.lates(), book.stills(), book.dues(), book.deed_days(), book.grace())

    def test_a_new_debt_each_time(self):
        book = book_of([Out(0, 10000), Rate(0, 375), Pay(9, 7)])
        for day in (0, 5, 9, 30):
            debt = account(book, day)
            kept = (debt.principal(), debt.units())
            other = account(book, day)
            debt.lend(5)
            debt.fee(6)
            debt.turn()
            debt.take(3)
            debt.grow(11)
            self.assertIsNot(debt, other)
            self.assertEqual((other.principal(), other.units()), kept)
            self.assertEqual(stands_at(book, day), kept)
            self.assertEqual(owed(book, day), kept[1] // CENT)

    def test_the_book_stays(self):
        entries = self.entries()
        book = book_of(entries, 3)
        kept = self.told_by(book)
        first = [(stands_at(book, day), charged(book, 500, 3, day)) for day in (0, 10, 60, LAST)]
        again = [(stands_at(book, day), charged(book, 500, 3, day)) for day in (0, 10, 60, LAST)]
        self.assertEqual(again, first)
        self.assertEqual(self.told_by(book), kept)

    def test_the_list_of_entries_changed_later(self):
        entries = self.entries()
        book = book_of(entries, 3)
        kept = [stands_at(book, day) for day in (0, 10, 60, LAST)]
        entries.append(Out(0, 10 ** 6))
        entries[0] = Pay(3, 99)
        self.assertEqual([stands_at(book, day) for day in (0, 10, 60, LAST)], kept)
        book.entries().clear()
        book.pays().clear()
        book.rates().append((0, 99))
        self.assertEqual([stands_at(book, day) for day in (0, 10, 60, LAST)], kept)

    def test_in_any_order_of_asking(self):
        book = book_of(self.entries(), 3)
        days = list(range(0, 100, 7))
        kept = {day: stands_at(book, day) for day in days}
        for day in reversed(days):
            self.assertEqual(stands_at(book, day), kept[day])

    def test_a_book_with_more(self):
        book = book_of([Out(0, 10000), Rate(0, CENT_A_DAY)])
        kept = account(book, 20)
        more = book.with_more([Pay(10, 5000)])
        self.assertEqual((owed(book, 20), kept.owed(), owed(more, 10), owed(more, 12)), (10020, 10020, 5010, 5011))


if __name__ == "__main__":
    unittest.main()
