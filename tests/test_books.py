import itertools
import random
import unittest

from loanroll.books import Book
from loanroll.counts import Bank, Count, Exact, Thirty
from loanroll.entries import Due, Entry, Fee, Late, Out, Pay, Rate, Still, Turn, entry_of
from loanroll.errors import NoTerms, TooMany
from tests.refusals import assert_refused, fallen, other_things, some_entries

END = 1000000
LAST = 999999
LISTS = ("entries", "outs", "fees", "pays", "turns", "rates", "lates", "stills", "dues", "deed_days")


def told_by(book):
    return {name: getattr(book, name)() for name in LISTS}


def day_sums(rows, word, days):
    told = []
    for day in range(days):
        amounts = [row[2] for row in rows if row[:2] == (word, day)]
        if amounts:
            told.append((day, sum(amounts)))
    return told


def last_rates(rows, word):
    told = {}
    for row in rows:
        if row[0] == word:
            told[row[1]] = row[2]
    return [(day, told[day]) for day in sorted(told)]


def runs_of(days):
    """Days, one by one, as spans without a day between."""
    firsts = [day for day in sorted(days) if day - 1 not in days]
    lasts = [day + 1 for day in sorted(days) if day + 1 not in days]
    return list(zip(firsts, lasts))


def day_by_day(entries, days):
    """What a book tells, found by going through the days one by one."""
    rows = [entry.row() for entry in entries]
    still = {day for row in rows if row[0] == "still" for day in range(row[1], row[2])}
    dues = [("due",) + row for row in fallen(rows)]
    deeds = {row[1] for row in rows if row[0] in ("out", "fee", "turn", "pay")}
    return {"entries": entries, "outs": day_sums(rows, "out", days), "fees": day_sums(rows, "fee", days),
            "pays": day_sums(rows, "pay", days), "turns": sorted({row[1] for row in rows if row[0] == "turn"}),
            "rates": last_rates(rows, "rate"), "lates": last_rates(rows, "late"), "stills": runs_of(still),
            "dues": day_sums(dues, "due", days), "deed_days": sorted(deeds)}


def one_of_each():
    return [Out(3, 100), Fee(4, -5), Turn(8), Pay(9, 20), Due(5, 30), Rate(3, 375), Late(6, 800), Still(5, 7)]


ONE_OF_EACH = {"outs": [(3, 100)], "fees": [(4, -5)], "pays": [(9, 20)], "turns": [8], "rates": [(3, 375)],
               "lates": [(6, 800)], "stills": [(5, 7)], "dues": [(7, 30)], "deed_days": [3, 4, 8, 9]}


class Told(unittest.TestCase):
    def assert_book(self, entries, **lists):
        book = Book(Count(), 0, entries)
        self.assertEqual(book.entries(), entries)
        for name, told in lists.items():
            self.assertEqual(getattr(book, name)(), told, name)

    def test_of_none(self):
        self.assertEqual(told_by(Book(Count(), 0, [])), {name: [] for name in LISTS})

    def test_of_one(self):
        nothing = {name: [] for name in LISTS if name != "entries"}
        rows = [(Out(3, 5), {"outs": [(3, 5)], "deed_days": [3]}), (Fee(3, -5), {"fees": [(3, -5)], "deed_days": [3]}),
                (Pay(3, 5), {"pays": [(3, 5)], "deed_days": [3]}), (Turn(3), {"turns": [3], "deed_days": [3]}),
                (Rate(3, 5), {"rates": [(3, 5)]}), (Late(3, 5), {"lates": [(3, 5)]}),
                (Still(3, 5), {"stills": [(3, 5)]}), (Due(3, 5), {"dues": [(3, 5)]})]
        for entry, lists in rows:
            self.assert_book([entry], **{**nothing, **lists})

    def test_one_of_each_in_other_orders(self):
        entries = one_of_each()
        chance = random.Random(51)
        for _ in range(50):
            chance.shuffle(entries)
            self.assert_book(entries, **ONE_OF_EACH)

    def test_count_and_grace(self):
        for count in (Count(), Bank(), Thirty(), Exact()):
            for grace in (0, 1, 3, 365, 366):
                book = Book(count, grace, one_of_each())
                self.assertEqual((book.count().name(), book.grace()), (count.name(), grace))
                self.assertIsInstance(book.count(), Count)
                self.assertIs(type(book.grace()), int)

    def test_entries_in_the_order_told(self):
        entries = [Pay(9, 1), Out(3, 5), Pay(9, 1), Rate(3, 1), Out(1, 5)]
        for order in itertools.permutations(entries):
            told = Book(Count(), 0, list(order)).entries()
            self.assertEqual([id(entry) for entry in told], [id(entry) for entry in order])

    def test_sums_of_one_day(self):
        self.assert_book([Out(9, 1), Out(3, 5), Out(9, 2), Out(3, 7)], outs=[(3, 12), (9, 3)], deed_days=[3, 9])
        self.assert_book([Pay(9, 1), Pay(3, 5), Pay(9, 2), Pay(3, 7)], pays=[(3, 12), (9, 3)], deed_days=[3, 9])
        self.assert_book([Fee(9, 1), Fee(3, 5), Fee(9, -2), Fee(3, 7)], fees=[(3, 12), (9, -1)], deed_days=[3, 9])

    def test_fees_that_come_to_nought(self):
        self.assert_book([Fee(9, 5), Fee(9, -5), Fee(4, 0)], fees=[(4, 0), (9, 0)], deed_days=[4, 9])

    def test_turns_each_once(self):
        self.assert_book([Turn(9), Turn(3), Turn(9), Turn(LAST), Turn(0)], turns=[0, 3, 9, LAST],
                         deed_days=[0, 3, 9, LAST])

    def test_of_several_rates_of_one_day_the_last_told_counts(self):
        self.assert_book([Rate(5, 300), Rate(2, 100), Rate(5, 200)], rates=[(2, 100), (5, 200)], lates=[])
        self.assert_book([Rate(5, 200), Rate(5, 300), Rate(2, 100)], rates=[(2, 100), (5, 300)])
        self.assert_book([Rate(5, 200), Rate(5, 0)], rates=[(5, 0)])
        self.assert_book([Late(5, 300), Rate(5, 7), Late(2, 100), Late(5, 200)], lates=[(2, 100), (5, 200)],
                         rates=[(5, 7)])
        self.assert_book([Rate(5, 200), Late(5, 900)], rates=[(5, 200)], lates=[(5, 900)])

    def test_stills_are_joined(self):
        self.assert_book([Still(8, 9), Still(1, 3), Still(3, 5), Still(2, 4)], stills=[(1, 5), (8, 9)])
        self.assert_book([Still(0, END), Still(5, 6)], stills=[(0, END)])
        self.assert_book([Still(1, 3), Still(4, 6)], stills=[(1, 3), (4, 6)])

    def test_a_still_without_days(self):
        self.assert_book([Still(5, 5), Still(9, 2)], stills=[])
        self.assert_book([Still(5, 5), Still(1, 3), Still(9, 2), Due(5, 4), Due(2, 4)], stills=[(1, 3)],
                         dues=[(3, 4), (5, 4)])

    def test_deed_days(self):
        entries = [Pay(9, 1), Turn(4), Out(4, 5), Fee(2, 0), Pay(4, 1), Rate(1, 1), Late(5, 1), Still(6, 7), Due(8, 1),
                   Turn(11), Fee(9, 3)]
        self.assert_book(entries, deed_days=[2, 4, 9, 11])

    def test_entries_by_themselves_tell_nothing(self):
        self.assert_book([Entry(3)], **{name: [] for name in LISTS if name != "entries"})

    def test_entries_beyond_an_amount(self):
        self.assert_book([Pay(3, 10 ** 30), Pay(3, 1), Pay(4, 0)], pays=[(3, 10 ** 30 + 1), (4, 0)], deed_days=[3, 4])

    def test_kinds_of_what_is_told(self):
        for name, told in told_by(Book(Exact(), 3, one_of_each())).items():
            self.assertIs(type(told), list)
            for row in told:
                if name in ("turns", "deed_days"):
                    self.assertIs(type(row), int)
                elif name != "entries":
                    self.assertEqual((type(row), len(row)), (tuple, 2))

    def test_many_books(self):
        chance = random.Random(52)
        for many in list(range(16)) * 12 + [60, 200, 500]:
            entries = some_entries(chance, many, 30 if many < 100 else 200)
            self.assertEqual(told_by(Book(Count(), 3, entries)), day_by_day(entries, 300))


class Dues(unittest.TestCase):
    def assert_dues(self, entries, dues):
        for order in itertools.permutations(entries):
            self.assertEqual(Book(Count(), 0, list(order)).dues(), dues, [entry.row() for entry in order])

    def test_on_their_own_days(self):
        self.assert_dues([Due(0, 1), Due(9, 2), Due(LAST, 3)], [(0, 1), (9, 2), (LAST, 3)])

    def test_on_a_day_that_stands_still(self):
        for day, fallen in ((4, 4), (5, 8), (6, 8), (7, 8), (8, 8), (9, 9)):
            self.assert_dues([Due(day, 30), Still(5, 8)], [(fallen, 30)])

    def test_at_the_end_of_a_joined_span(self):
        for day, fallen in ((4, 4), (5, 12), (7, 12), (8, 12), (11, 12), (12, 12)):
            self.assert_dues([Due(day, 30), Still(8, 12), Still(5, 8)], [(fallen, 30)])
        self.assert_dues([Due(5, 30), Still(5, 7), Still(8, 12)], [(7, 30)])
        self.assert_dues([Due(5, 30), Still(5, 20), Still(6, 8), Still(15, 25)], [(25, 30)])

    def test_behind_the_last_day(self):
        self.assert_dues([Due(LAST, 30), Still(LAST, END)], [(END, 30)])
        self.assert_dues([Due(3, 30), Due(LAST, 7), Still(0, END)], [(END, 37)])
        self.assert_dues([Due(3, 30), Due(LAST, 7), Still(4, END)], [(3, 30), (END, 7)])

    def test_all_that_fall_on_one_day_as_one(self):
        self.assert_dues([Due(5, 1), Due(5, 2)], [(5, 3)])
        self.assert_dues([Due(5, 1), Due(6, 2), Due(8, 4), Still(5, 8)], [(8, 7)])
        self.assert_dues([Due(5, 1), Due(7, 2), Due(9, 4), Due(9, 8), Still(5, 8)], [(8, 3), (9, 12)])


class Refused(unittest.TestCase):
    def test_no_count(self):
        for thing in other_things() + ["plain", 365, Count, Exact, Entry(3), Book(Count(), 0, [])]:
            assert_refused(self, NoTerms, Book, thing, 0, [])
            assert_refused(self, NoTerms, Book, thing, 3, one_of_each())

    def test_no_grace(self):
        for thing in other_things() + [-1, 367, -10 ** 40, 10 ** 40, Count()]:
            for count in (Count(), Bank(), Thirty(), Exact()):
                assert_refused(self, NoTerms, Book, count, thing, [])
                assert_refused(self, NoTerms, Book, count, thing, one_of_each())

    def test_neither(self):
        for thing in other_things():
            assert_refused(self, NoTerms, Book, thing, thing, [])

    def test_terms_ahead_of_too_many(self):
        entries = [Pay(3, 1)] * 501
        for thing in (None, True, "plain", [], 365):
            assert_refused(self, NoTerms, Book, thing, 0, entries)
        for thing in (None, True, "0", [], -1, 367):
            assert_refused(self, NoTerms, Book, Count(), thing, entries)

    def test_too_many(self):
        for many in (501, 502, 1000, 5000):
            assert_refused(self, TooMany, Book, Count(), 0, [Pay(3, 1)] * many)
        assert_refused(self, TooMany, Book, Exact(), 366, some_entries(random.Random(53), 501, 99))

    def test_none_too_many(self):
        for many in (499, 500):
            book = Book(Count(), 0, [Pay(3, 1)] * many)
            self.assertEqual((len(book.entries()), book.pays()), (many, [(3, many)]))

    def test_the_list_stays(self):
        entries = [Pay(3, 1)] * 501
        assert_refused(self, TooMany, Book, Count(), 0, entries)
        self.assertEqual(len(entries), 501)


class TheAskersOwn(unittest.TestCase):
    def test_nothing_handed_in_is_changed(self):
        entries = some_entries(random.Random(54), 80, 20)
        kept, rows = list(entries), [entry.row() for entry in entries]
        book = Book(Count(), 3, entries)
        told_by(book)
        book.with_more(entries)
        self.assertEqual([id(entry) for entry in entries], [id(entry) for entry in kept])
        self.assertEqual([entry.row() for entry in entries], rows)

    def test_the_list_changed_behind(self):
        entries = one_of_each()
        kept = list(entries)
        book = Book(Count(), 3, entries)
        untold = Book(Count(), 3, entries)
        told = told_by(book)
        entries.reverse()
        entries.append(Out(1, 1))
        self.assertEqual(told_by(book), told)
        entries.clear()
        self.assertEqual(told_by(book), told)
        self.assertEqual(told_by(untold), {"entries": kept, **ONE_OF_EACH})

    def test_each_told_list_emptied(self):
        book = Book(Count(), 3, one_of_each())
        kept = told_by(book)
        for name in LISTS:
            other = getattr(book, name)()
            told = getattr(book, name)()
            self.assertIsNot(told, other)
            told.append(told[0])
            self.assertEqual(told_by(book), kept)
            told.clear()
            self.assertEqual(other, kept[name])
            self.assertEqual(told_by(book), kept)
            self.assertEqual(told_by(book.with_more([])), kept)

    def test_lists_of_a_book_of_none(self):
        book = Book(Count(), 3, [])
        for name in LISTS:
            getattr(book, name)().append((1, 2))
        self.assertEqual(told_by(book), {name: [] for name in LISTS})

    def test_two_books_of_one_list(self):
        entries = one_of_each()
        one, other = Book(Count(), 0, entries), Book(Count(), 0, entries)
        for name in LISTS:
            getattr(one, name)().clear()
        self.assertEqual(told_by(other), told_by(one))


class WithMore(unittest.TestCase):
    def test_a_new_book(self):
        entries = one_of_each()
        book = Book(Thirty(), 7, entries)
        kept = told_by(book)
        more = [Pay(9, 5), Rate(3, 200), Still(7, 10), Due(1, 2)]
        other = book.with_more(more)
        self.assertIs(type(other), Book)
        self.assertIsNot(other, book)
        self.assertEqual((other.count().name(), other.grace()), ("thirty", 7))
        self.assertEqual(other.entries(), entries + more)
        self.assertEqual((other.pays(), other.rates(), other.stills(), other.dues()),
                         ([(9, 25)], [(3, 200)], [(5, 10)], [(1, 2), (10, 30)]))
        self.assertEqual(told_by(book), kept)
        self.assertEqual(kept, {"entries": entries, **ONE_OF_EACH})

    def test_the_new_ones_stand_behind(self):
        one, other = Rate(5, 100), Rate(5, 200)
        self.assertEqual(Book(Count(), 0, [one]).with_more([other]).rates(), [(5, 200)])
        self.assertEqual(Book(Count(), 0, [other]).with_more([one]).rates(), [(5, 100)])

    def test_with_none(self):
        for entries in ([], one_of_each()):
            book = Book(Exact(), 366, entries)
            other = book.with_more([])
            self.assertIsNot(other, book)
            self.assertEqual(told_by(other), told_by(book))

    def test_as_if_told_at_once(self):
        chance = random.Random(55)
        for many in (0, 1, 5, 40, 250):
            one, other = some_entries(chance, many, 30), some_entries(chance, many, 30)
            told = told_by(Book(Bank(), 3, one).with_more(other))
            self.assertEqual(told, told_by(Book(Bank(), 3, one + other)))

    def test_too_many_together(self):
        for many, more in ((500, 1), (0, 501), (499, 2), (250, 251), (500, 500)):
            book = Book(Count(), 0, [Pay(3, 1)] * many)
            entries = [Pay(4, 1)] * more
            assert_refused(self, TooMany, book.with_more, entries)
            self.assertEqual((len(book.entries()), len(entries)), (many, more))

    def test_none_too_many_together(self):
        for many, more in ((500, 0), (0, 500), (499, 1), (250, 250)):
            book = Book(Count(), 0, [Pay(3, 1)] * many).with_more([Pay(4, 1)] * more)
            self.assertEqual(len(book.entries()), 500)

    def test_the_list_changed_behind(self):
        more = [Pay(9, 5)]
        other = Book(Count(), 0, [Out(3, 5)]).with_more(more)
        more.append(Pay(9, 6))
        self.assertEqual(other.pays(), [(9, 5)])
        more.clear()
        self.assertEqual(([entry.row() for entry in other.entries()], other.pays()),
                         ([("out", 3, 5), ("pay", 9, 5)], [(9, 5)]))

    def test_more_and_more(self):
        book = Book(Count(), 0, [])
        for many in range(1, 20):
            book = book.with_more([entry_of(("pay", many % 3, many))])
            self.assertEqual((len(book.entries()), sum(row[1] for row in book.pays())), (many, many * (many + 1) // 2))


if __name__ == "__main__":
    unittest.main()
