import itertools
import random
import unittest

from loanroll.accounts import owed
from loanroll.books import Book
from loanroll.counts import Bank, Count, Exact, Thirty
from loanroll.entries import Due, Entry, Fee, Late, Out, Pay, Rate, Still, Turn
from loanroll.errors import Back, BadEntry, NoDay, NoNumber, NoTerms, TooMany
from loanroll.rolls import Roll
from tests.refusals import (END, LAST, WORDS, DayByDay, Hostile, assert_refused, do_all, numbered_rows, other_things,
                            rows_of, some_deeds, some_entry, standing_by_words, things_no_days, told_by, told_by_roll)

COUNTS = (Count, Bank, Thirty, Exact)
MOST = 10 ** 9


def small_roll():
    """Three numbers put, one of them put again and one struck, on days 10, 20, 20, 30 and 40."""
    deeds = [(10, 5, Out(3, 10000)), (20, 2, Rate(0, 400)), (20, 9, Pay(8, 100)), (30, 2, Rate(0, 500)), (40, 9, None)]
    return do_all(Roll(Count(), 3), deeds)


def full_roll():
    """A roll with five hundred deeds, puts and strikes together, the last one known on day 600."""
    roll = Roll(Count(), 0)
    for place in range(249):
        roll.put(place, 7, Pay(place, 1))
        roll.strike(place, 7)
    roll.put(600, 7, Out(3, 5))
    roll.put(600, 8, Out(4, 5))
    return roll


def all_told(roll):
    return told_by_roll(roll, (1, 2, 5, 7, 8, 9, MOST), (0, 9, 10, 19, 20, 30, 39, 40, 500, 600, 700, LAST))


class Made(unittest.TestCase):
    def test_without_deeds(self):
        for count, grace in itertools.product(COUNTS, (0, 1, 3, 365, 366)):
            roll = Roll(count(), grace)
            for known in (0, 1, 500, LAST):
                book = roll.book(known)
                self.assertEqual((book.count().name(), book.grace(), book.entries()), (count().name(), grace, []))
                self.assertEqual((roll.standing(known), roll.owed(5, known)), ([], 0))
            self.assertEqual((roll.history(1), roll.history(MOST), roll.knowns()), ([], [], []))

    def test_no_count(self):
        for thing in other_things() + ["plain", 365, Count, Exact, Entry(3), Book(Count(), 0, []), Roll(Count(), 0)]:
            assert_refused(self, NoTerms, Roll, thing, 0)
            assert_refused(self, NoTerms, Roll, thing, 366)

    def test_no_grace(self):
        for thing in other_things() + [-1, 367, -10 ** 40, 10 ** 40, Count()]:
            for count in COUNTS:
                assert_refused(self, NoTerms, Roll, count(), thing)

    def test_neither(self):
        for thing in other_things() + [-1, 367]:
            assert_refused(self, NoTerms, Roll, thing, thing)


class Deeds(unittest.TestCase):
    def test_they_tell_nothing(self):
        roll = Roll(Count(), 0)
        self.assertIsNone(roll.put(5, 1, Out(3, 10)))
        self.assertIsNone(roll.put(5, 1, Out(3, 20)))
        self.assertIsNone(roll.strike(5, 1))

    def test_each_kind_of_entry(self):
        entries = [Out(0, 1), Fee(1, -10 ** 12), Fee(1, 0), Fee(1, 10 ** 12), Turn(LAST), Pay(3, 10 ** 12), Due(4, 1),
                   Rate(5, 0), Rate(5, 10 ** 6), Late(6, 10 ** 6), Still(7, 8), Still(LAST, END), Still(0, END)]
        roll = Roll(Count(), 0)
        for number, entry in enumerate(entries, 1):
            roll.put(0, number, entry)
        self.assertEqual(numbered_rows(roll.standing(0)), list(enumerate(rows_of(entries), 1)))
        for number, entry in enumerate(entries, 1):
            roll.put(1, 20, entry)
            self.assertEqual(numbered_rows(roll.standing(1))[-1], (20, entry.row()))

    def test_in_the_place_of_another_one(self):
        roll = Roll(Count(), 0)
        roll.put(5, 7, Out(3, 10))
        roll.put(6, 7, Pay(9, 4))
        self.assertEqual(numbered_rows(roll.standing(5)), [(7, ("out", 3, 10))])
        self.assertEqual(numbered_rows(roll.standing(6)), [(7, ("pay", 9, 4))])

    def test_in_the_place_of_another_one_of_the_same_day(self):
        roll = Roll(Count(), 0)
        roll.put(5, 7, Out(3, 10))
        roll.put(5, 7, Pay(9, 4))
        self.assertEqual(numbered_rows(roll.standing(5)), [(7, ("pay", 9, 4))])
        self.assertEqual([known for known, _ in roll.history(7)], [5, 5])

    def test_like_the_one_that_stands(self):
        for known in (5, 6):
            entry = Out(3, 10)
            for other in (entry, Out(3, 10)):
                roll = Roll(Count(), 0)
                roll.put(5, 7, entry)
                roll.put(known, 7, other)
                self.assertEqual([(day, told.row()) for day, told in roll.history(7)],
                                 [(5, ("out", 3, 10)), (known, ("out", 3, 10))])
                self.assertEqual(roll.knowns(), sorted({5, known}))
                self.assertEqual(numbered_rows(roll.standing(6)), [(7, ("out", 3, 10))])

    def test_struck_and_put_again(self):
        roll = Roll(Count(), 0)
        do_all(roll, [(5, 7, Out(3, 10)), (6, 7, None), (6, 7, Out(3, 30)), (7, 7, None), (9, 7, Out(3, 10))])
        told = [numbered_rows(roll.standing(known)) for known in range(4, 11)]
        self.assertEqual(told, [[], [(7, ("out", 3, 10))], [(7, ("out", 3, 30))], [], [], [(7, ("out", 3, 10))],
                                [(7, ("out", 3, 10))]])
        self.assertEqual([entry and entry.row() for _, entry in roll.history(7)],
                         [("out", 3, 10), None, ("out", 3, 30), None, ("out", 3, 10)])

    def test_put_and_struck_on_one_day(self):
        roll = do_all(Roll(Count(), 0), [(5, 7, Out(3, 10)), (5, 7, None)])
        self.assertEqual((roll.standing(5), roll.standing(LAST), roll.knowns()), ([], [], [5]))
        self.assertEqual([known for known, _ in roll.history(7)], [5, 5])

    def test_days_of_knowing_alike_and_rising(self):
        roll = do_all(Roll(Count(), 0), [(day, place + 1, Pay(3, 1)) for place, day in
                                         enumerate((0, 0, 4, 4, 5, 900, LAST, LAST))])
        self.assertEqual(roll.knowns(), [0, 4, 5, 900, LAST])
        self.assertEqual([len(roll.standing(known)) for known in (0, 3, 4, 5, 899, 900, LAST)], [2, 2, 4, 5, 5, 6, 8])

    def test_an_entry_known_ahead_of_its_own_day(self):
        roll = do_all(Roll(Count(), 0), [(2, 1, Out(500, 10)), (3, 2, Pay(0, 4))])
        self.assertEqual([roll.owed(500, known) for known in (1, 2, 3)], [0, 10, 6])


def wrong_entries():
    """Things that no put takes, with their places."""
    told = [(thing, 0) for thing in other_things()]
    told += [(("out", 3, 10), 0), ([Out(3, 10)], 0), ("out", 0), (Out, 0), (Count(), 0), (Entry(3), 0), (Entry(-1), 0)]
    for made in (Out, Fee, Pay, Due, Rate, Late):
        told += [(made(day, 5), 1) for day in things_no_days()]
        told += [(made(3, thing), 2) for thing in other_things()]
        told += [(made(-1, None), 1)]
    told += [(Turn(day), 1) for day in things_no_days()]
    told += [(Still(day, 9), 1) for day in things_no_days()]
    told += [(Still(3, thing), 2) for thing in other_things() + [3, 2, 0, -1, END + 1]] + [(Still(-1, -1), 1)]
    for made in (Out, Pay, Due):
        told += [(made(3, amount), 2) for amount in (0, -1, 10 ** 12 + 1)]
    told += [(Fee(3, 10 ** 12 + 1), 2), (Fee(3, -10 ** 12 - 1), 2)]
    for made in (Rate, Late):
        told += [(made(3, rate), 2) for rate in (-1, 10 ** 6 + 1)]
    return told


def things_no_numbers():
    return other_things() + [0, -1, MOST + 1, 10 ** 40, -10 ** 40]


class Refused(unittest.TestCase):
    def assert_bad(self, place, roll, known, number, thing):
        assert_refused(self, BadEntry, roll.put, known, number, thing)
        try:
            roll.put(known, number, thing)
        except BadEntry as refusal:
            self.assertEqual((refusal.place, type(refusal.place)), (place, int))

    def test_no_day(self):
        for roll in (Roll(Count(), 0), small_roll(), full_roll()):
            kept = all_told(roll)
            for thing in things_no_days():
                assert_refused(self, NoDay, roll.put, thing, 1, Pay(3, 1))
                assert_refused(self, NoDay, roll.strike, thing, 2)
            self.assertEqual(all_told(roll), kept)

    def test_back(self):
        roll = small_roll()
        kept = all_told(roll)
        for known in (0, 10, 30, 39):
            assert_refused(self, Back, roll.put, known, 1, Pay(3, 1))
            assert_refused(self, Back, roll.strike, known, 2)
        self.assertEqual(all_told(roll), kept)
        roll.put(40, 1, Pay(3, 1))
        roll.strike(40, 2)
        self.assertEqual([number for number, _ in roll.standing(40)], [1, 5])

    def test_back_behind_a_strike(self):
        roll = do_all(Roll(Count(), 0), [(5, 1, Pay(3, 1)), (9, 1, None)])
        assert_refused(self, Back, roll.put, 8, 1, Pay(3, 1))
        roll.put(9, 1, Pay(3, 1))

    def test_no_number(self):
        roll = small_roll()
        kept = all_told(roll)
        for thing in things_no_numbers():
            assert_refused(self, NoNumber, roll.put, 40, thing, Pay(3, 1))
            assert_refused(self, NoNumber, roll.strike, 40, thing)
        self.assertEqual(all_told(roll), kept)

    def test_the_first_and_the_last_number(self):
        roll = Roll(Count(), 0)
        roll.put(5, 1, Pay(3, 1))
        roll.put(5, MOST, Pay(3, 2))
        self.assertEqual(numbered_rows(roll.standing(5)), [(1, ("pay", 3, 1)), (MOST, ("pay", 3, 2))])
        roll.strike(5, MOST)
        roll.strike(5, 1)
        self.assertEqual(roll.standing(5), [])

    def test_a_strike_where_nothing_stands(self):
        roll = small_roll()
        kept = all_told(roll)
        for number in (1, 3, 9, MOST):
            for known in (40, 41, LAST):
                assert_refused(self, NoNumber, roll.strike, known, number)
        self.assertEqual(all_told(roll), kept)
        roll.strike(40, 5)
        assert_refused(self, NoNumber, roll.strike, 40, 5)
        roll.put(41, 5, Out(3, 7))
        roll.strike(41, 5)
        assert_refused(self, NoNumber, roll.strike, 41, 5)

    def test_bad_entries(self):
        for roll in (Roll(Count(), 0), small_roll()):
            kept = all_told(roll)
            for number in (2, 77):
                for thing, place in wrong_entries():
                    self.assert_bad(place, roll, 40, number, thing)
            self.assertEqual(all_told(roll), kept)

    def test_too_many(self):
        roll = full_roll()
        kept = all_told(roll)
        self.assertEqual(sum(len(roll.history(number)) for number in (7, 8)), 500)
        for known in (600, 601, LAST):
            for number in (7, 8, 9):
                assert_refused(self, TooMany, roll.put, known, number, Pay(3, 1))
            assert_refused(self, TooMany, roll.strike, known, 7)
        self.assertEqual(all_told(roll), kept)

    def test_none_too_many(self):
        for last in (("put", 7), ("put", 1000), ("strike", 7)):
            roll = Roll(Count(), 0)
            for number in range(1, 500):
                roll.put(5, number, Pay(3, 1))
            if last[0] == "put":
                roll.put(5, last[1], Pay(3, 1))
            else:
                roll.strike(5, last[1])
            assert_refused(self, TooMany, roll.put, 5, 1, Pay(3, 1))
            assert_refused(self, TooMany, roll.strike, 5, 1)
        many = Roll(Count(), 0)
        for number in range(500, 0, -1):
            many.put(5, number, Pay(3, number))
        self.assertEqual(numbered_rows(many.standing(5)), [(number, ("pay", 3, number)) for number in range(1, 501)])
        self.assertEqual(many.owed(3, 5), -500 * 501 // 2)

    def test_the_first_refusal_of_several(self):
        knowns = [(None, NoDay), (-1, NoDay), (5, Back), (600, None)]
        numbers = [(0, NoNumber), ("1", NoNumber), (7, None)]
        entries = [(None, 0), (Entry(3), 0), (Pay(-1, 0), 1), (Pay(3, 0), 2), (Pay(3, 1), None)]
        part = do_all(Roll(Count(), 0), [(600, 7, Out(3, 5))])
        for roll, full in ((full_roll(), True), (part, False)):
            kept = all_told(roll)
            for known, number, entry in itertools.product(knowns, numbers, entries):
                handed = (known[0], number[0], entry[0])
                if known[1] or number[1]:
                    assert_refused(self, known[1] or number[1], roll.put, *handed)
                elif entry[1] is not None:
                    self.assert_bad(entry[1], roll, *handed)
                elif full:
                    assert_refused(self, TooMany, roll.put, *handed)
            for known, number in itertools.product(knowns, numbers + [(77, NoNumber)]):
                error = known[1] or number[1] or (TooMany if full else None)
                if error:
                    assert_refused(self, error, roll.strike, known[0], number[0])
            self.assertEqual(all_told(roll), kept)

    def test_a_refused_deed_is_as_if_it_had_not_been(self):
        roll = do_all(Roll(Count(), 0), [(10, 1, Out(3, 5))])
        for error, deed, handed in ((NoNumber, roll.put, (500, 0, Pay(3, 1))), (BadEntry, roll.put, (500, 2, None)),
                                    (BadEntry, roll.put, (500, 2, Pay(3, 0))), (NoNumber, roll.strike, (500, 2)),
                                    (NoNumber, roll.strike, (LAST, 0))):
            assert_refused(self, error, deed, *handed)
            self.assertEqual((roll.knowns(), roll.history(2)), ([10], []))
        roll.put(10, 2, Pay(3, 1))
        roll.put(11, 1, Pay(3, 1))
        roll.strike(12, 2)
        self.assertEqual(roll.knowns(), [10, 11, 12])

    def test_refused_deeds_do_not_count_for_too_many(self):
        roll = Roll(Count(), 0)
        for place in range(600):
            assert_refused(self, BadEntry, roll.put, 5, 1, None)
            if place < 500:
                roll.put(5, 1, Pay(3, 1))
        assert_refused(self, TooMany, roll.put, 5, 1, Pay(3, 1))

    def test_refused_deeds_among_good_ones(self):
        chance = random.Random(81)
        deeds = some_deeds(chance, 60, (1, 2, 3, 4))
        plain, other = Roll(Count(), 3), Roll(Count(), 3)
        for known, number, entry in deeds:
            for wrong in ((LAST, 0, Pay(3, 1)), (LAST, number, None), (LAST, number, Still(9, 9)), (END, 1, Pay(3, 1))):
                with self.assertRaises((NoDay, NoNumber, BadEntry)):
                    other.put(*wrong)
            with self.assertRaises(NoNumber):
                other.strike(LAST, 5)
            do_all(plain, [(known, number, entry)])
            do_all(other, [(known, number, entry)])
            numbers, knowns = (1, 2, 3, 4, 5), (known - 1, known, LAST)
            self.assertEqual(told_by_roll(other, numbers, knowns), told_by_roll(plain, numbers, knowns))


class Known(unittest.TestCase):
    def test_ahead_on_between_and_behind(self):
        roll = small_roll()
        out, pay = (5, ("out", 3, 10000)), (9, ("pay", 8, 100))
        low, high = (2, ("rate", 0, 400)), (2, ("rate", 0, 500))
        for known, standing in ((0, []), (9, []), (10, [out]), (15, [out]), (19, [out]), (20, [low, out, pay]),
                                (29, [low, out, pay]), (30, [high, out, pay]), (39, [high, out, pay]),
                                (40, [high, out]), (41, [high, out]), (LAST, [high, out])):
            self.assertEqual(numbered_rows(roll.standing(known)), standing, known)
            self.assertEqual(rows_of(roll.book(known).entries()), [row for _, row in standing], known)

    def test_the_kinds_of_what_is_told(self):
        roll = small_roll()
        for number, entry in roll.standing(20):
            self.assertIs(type(number), int)
            self.assertIsInstance(entry, Entry)
        for told in roll.standing(20) + roll.history(9):
            self.assertEqual((type(told), len(told)), (tuple, 2))
        for told in (roll.standing(20), roll.standing(0), roll.history(9), roll.history(1), roll.knowns()):
            self.assertIs(type(told), list)
        self.assertEqual((type(roll.book(20)), type(roll.owed(9, 20))), (Book, int))

    def test_numbers_rising_whatever_the_order_of_the_deeds(self):
        numbers = (3, 1, 20, 100, 9, MOST)
        for order in itertools.permutations(numbers):
            roll = do_all(Roll(Count(), 0), [(place // 2, number, Pay(number % 7, number))
                                             for place, number in enumerate(order)])
            self.assertEqual([number for number, _ in roll.standing(9)], sorted(numbers))
            self.assertEqual([entry.amount for entry in roll.book(9).entries()], sorted(numbers))

    def test_the_roll_s_count_and_grace(self):
        for count, grace in itertools.product(COUNTS, (0, 9, 366)):
            roll = do_all(Roll(count(), grace), [(4, 1, Out(3, 10000)), (4, 2, Rate(0, 500)), (5, 3, Late(0, 300)),
                                                 (6, 4, Due(20, 700))])
            for known, many in ((3, 0), (4, 2), (5, 3), (6, 4)):
                book = roll.book(known)
                self.assertEqual((book.count().name(), book.grace(), len(book.entries())),
                                 (count().name(), grace, many))
                other = Book(count(), grace, [entry for _, entry in roll.standing(known)])
                self.assertEqual(rows_of(book.entries()), rows_of(other.entries()))
                for day in (0, 3, 20, 30, 400, LAST):
                    self.assertEqual(roll.owed(day, known), owed(other, day))

    def test_of_several_rates_of_one_day_that_of_the_greatest_number(self):
        for kind, table in ((Rate, Book.rates), (Late, Book.lates)):
            for order in itertools.permutations((11, 2, 9)):
                deeds = [(place, number, kind(50, number)) for place, number in enumerate(order)]
                roll = do_all(Roll(Count(), 0), deeds)
                for known in range(3):
                    self.assertEqual(table(roll.book(known)), [(50, max(order[:known + 1]))])
                roll.strike(7, 11)
                self.assertEqual(table(roll.book(7)), [(50, 9)])
                roll.put(8, 2, kind(50, 400))
                self.assertEqual(table(roll.book(8)), [(50, 9)])

    def test_owed(self):
        roll = Roll(Count(), 0)
        roll.put(10, 1, Out(0, 10000))
        roll.put(10, 2, Rate(0, 365))
        roll.put(50, 3, Pay(20, 1000))
        roll.put(60, 3, Pay(30, 1000))
        roll.strike(70, 2)
        self.assertEqual([roll.owed(100, known) for known in (9, 10, 49, 50, 59, 60, 69, 70, LAST)],
                         [0, 10100, 10100, 9092, 9092, 9093, 9093, 9000, 9000])
        self.assertEqual([roll.owed(day, 50) for day in (0, 10, 19, 20, 30)], [10000, 10010, 10019, 9020, 9029])

    def test_history(self):
        roll = small_roll()
        self.assertEqual([(known, entry and entry.row()) for known, entry in roll.history(2)],
                         [(20, ("rate", 0, 400)), (30, ("rate", 0, 500))])
        self.assertEqual([(known, entry and entry.row()) for known, entry in roll.history(9)],
                         [(20, ("pay", 8, 100)), (40, None)])
        self.assertIs(roll.history(9)[1][1], None)
        self.assertEqual((roll.history(1), roll.history(MOST)), ([], []))

    def test_knowns(self):
        self.assertEqual(small_roll().knowns(), [10, 20, 30, 40])
        self.assertEqual(full_roll().knowns(), list(range(249)) + [600])

    def test_many_rolls_by_words(self):
        chance = random.Random(82)
        numbers = (1, 2, 3, 10, 20, MOST)
        for many in list(range(20)) * 6 + [200, 500]:
            deeds = some_deeds(chance, many, numbers)
            roll = do_all(Roll(Thirty(), 2), deeds)
            knowns = sorted({known for known, _, _ in deeds})
            self.assertEqual(roll.knowns(), knowns)
            for number in numbers + (4,):
                own = [(known, entry) for known, other, entry in deeds if other == number]
                self.assertEqual(roll.history(number), own)
            for known in sorted({0, LAST} | {max(0, day + more) for day in knowns for more in (-1, 0, 1)}):
                standing = standing_by_words(deeds, known)
                self.assertEqual(roll.standing(known), standing)
                self.assertEqual(roll.book(known).entries(), [entry for _, entry in standing])

    def test_owed_day_by_day(self):
        chance = random.Random(83)
        for count, grace in itertools.product(COUNTS, (0, 4)):
            deeds = some_deeds(chance, 40, tuple(range(1, 13)), days=50, first=1480, size=1000, known=1490)
            roll = do_all(Roll(count(), grace), deeds)
            for known in [1489] + roll.knowns() + [LAST]:
                rows = rows_of([entry for _, entry in standing_by_words(deeds, known)])
                accounts = DayByDay(count(), grace, rows).accounts(1560, 1480)
                for day in range(1480, 1561, 5):
                    self.assertEqual(roll.owed(day, known), accounts[day - 1480][1] // count().unit())


class Stays(unittest.TestCase):
    def test_what_was_told_is_told_again_behind_later_deeds(self):
        chance = random.Random(84)
        for _ in range(20):
            deeds = some_deeds(chance, 30, (1, 2, 3, 4, 5), size=1000)
            roll = Roll(Exact(), 1)
            kept = {}
            for place, deed in enumerate(deeds):
                do_all(roll, [deed])
                if place + 1 == len(deeds) or deeds[place + 1][0] > deed[0]:
                    for known in (max(0, deed[0] - 1), deed[0]):
                        kept[known] = (roll.standing(known), told_by(roll.book(known)),
                                       [roll.owed(day, known) for day in (0, 10, 20, 40, 60)])
                for known, told in kept.items():
                    self.assertEqual(roll.standing(known), told[0])
                    self.assertEqual(told_by(roll.book(known)), told[1])
                    self.assertEqual([roll.owed(day, known) for day in (0, 10, 20, 40, 60)], told[2])

    def told_at(self, roll, known):
        book = roll.book(known)
        return (numbered_rows(roll.standing(known)), rows_of(book.entries()), book.rates(), book.lates(), book.dues(),
                [roll.owed(day, known) for day in (0, 9, 20, 40, 80, 500, LAST)])

    def test_deeds_of_unlike_numbers_in_another_order(self):
        chance = random.Random(85)
        for _ in range(30):
            deeds = some_deeds(chance, 25, (1, 2, 3, 4, 5, 6), size=1000)
            roll = do_all(Roll(Bank(), 0), deeds)
            by_number = {}
            for deed in deeds:
                by_number.setdefault(deed[1], []).append(deed)
            # Each number's deeds keep their order, and all keep their days: so only deeds of one day change places.
            mingled = sorted(itertools.chain(*[by_number[number] for number in chance.sample(sorted(by_number),
                                                                                            len(by_number))]),
                             key=lambda deed: deed[0])
            other = do_all(Roll(Bank(), 0), mingled)
            for known in range(deeds[-1][0] + 2):
                self.assertEqual(self.told_at(other, known), self.told_at(roll, known))

    def test_what_stands_put_in_any_order_on_any_days_up_to_that_one(self):
        chance = random.Random(86)
        for _ in range(60):
            deeds = some_deeds(chance, 25, (1, 2, 3, 4, 5, 6), size=1000)
            roll = do_all(Roll(Count(), 5), deeds)
            known = chance.randrange(deeds[-1][0] + 3)
            standing = roll.standing(known)
            chance.shuffle(standing)
            days = sorted(chance.randrange(known + 1) for _ in standing)
            other = Roll(Count(), 5)
            for day, (number, entry) in zip(days, standing):
                other.put(day, number, entry)
            self.assertEqual(self.told_at(other, known), self.told_at(roll, known))

    def test_all_orders_of_some(self):
        entries = {1: Out(0, 5000), 2: Rate(0, 300), 7: Rate(0, 900), 9: Pay(30, 700)}
        told = None
        for order in itertools.permutations(entries):
            for days in ((5, 5, 5, 5), (0, 1, 2, 3), (0, 0, 5, 5)):
                roll = do_all(Roll(Count(), 0), [(day, number, entries[number]) for day, number in zip(days, order)])
                told = told or self.told_at(roll, 5)
                self.assertEqual(self.told_at(roll, 5), told)
        self.assertEqual(told[2], [(0, 900)])


class TheAskersOwn(unittest.TestCase):
    def test_told_lists_emptied(self):
        roll = small_roll()
        kept = all_told(roll)
        for known in (0, 10, 20, 30, 40, LAST):
            for told in (roll.standing(known), roll.book(known).entries(), roll.book(known).rates()):
                told.append(None)
                told.clear()
                self.assertEqual(all_told(roll), kept)
        for number in (1, 2, 5, 9):
            told = roll.history(number)
            told.append((99, None))
            told.clear()
            self.assertEqual(all_told(roll), kept)
        told = roll.knowns()
        told.append(50)
        told.clear()
        self.assertEqual(all_told(roll), kept)
        roll.put(40, 1, Pay(3, 1))

    def test_told_lists_kept_behind_later_deeds(self):
        roll = small_roll()
        told = [roll.standing(20), roll.standing(LAST), roll.history(2), roll.history(1), roll.knowns(),
                roll.book(LAST).entries()]
        kept = [list(things) for things in told]
        book, book_kept = roll.book(LAST), told_by(roll.book(LAST))
        do_all(roll, [(40, 2, None), (41, 1, Pay(3, 1)), (42, 5, Out(3, 9)), (43, 2, Rate(0, 1))])
        self.assertEqual(told, kept)
        self.assertEqual(told_by(book), book_kept)

    def test_asking_changes_nothing(self):
        roll = small_roll()
        kept = all_told(roll)
        for _ in range(3):
            self.assertEqual(all_told(roll), kept)

    def test_entries_stay(self):
        chance = random.Random(87)
        entries = [some_entry(chance, word, 40) for word in WORDS]
        rows = rows_of(entries)
        roll = do_all(Roll(Count(), 0), [(5, number, entry) for number, entry in enumerate(entries, 1)])
        roll.owed(LAST, 5)
        do_all(roll, [(6, 1, None), (6, 2, entries[0]), (7, 2, None)])
        self.assertEqual(rows_of(entries), rows)
        self.assertEqual(numbered_rows(roll.standing(5)), list(enumerate(rows, 1)))

    def test_two_rolls_of_one_count(self):
        count = Count()
        one, other = Roll(count, 0), Roll(count, 0)
        entry = Out(3, 5)
        one.put(5, 1, entry)
        self.assertEqual((other.standing(LAST), other.history(1), other.knowns()), ([], [], []))
        other.put(2, 1, entry)
        other.strike(2, 1)
        self.assertEqual(numbered_rows(one.standing(5)), [(1, ("out", 3, 5))])

    def test_hostile_things_are_not_looked_into(self):
        roll = Roll(Count(), 0)
        assert_refused(self, NoDay, roll.put, Hostile(), Hostile(), Hostile())
        assert_refused(self, NoNumber, roll.put, 5, Hostile(), Hostile())
        assert_refused(self, BadEntry, roll.put, 5, 5, Hostile())
        assert_refused(self, BadEntry, roll.put, 5, 5, Pay(Hostile(), Hostile()))
        assert_refused(self, BadEntry, roll.put, 5, 5, Pay(3, Hostile()))


if __name__ == "__main__":
    unittest.main()
