import itertools
import random
import unittest

from loanroll.entries import Due, Entry, Fee, Late, Out, Pay, Rate, Still, Turn, days_of, entry_of, sum_by
from loanroll.errors import BadEntry, LoanError
from tests.refusals import WORDS, Hostile, other_things, some_entries

KINDS = {"out": Out, "fee": Fee, "turn": Turn, "pay": Pay, "due": Due, "rate": Rate, "late": Late, "still": Still}
FIELDS = {"out": "amount", "fee": "amount", "pay": "amount", "due": "amount", "rate": "rate", "late": "rate",
          "still": "until"}
MOST = 10 ** 12
LAST = 999999
END = 1000000


class OddTuple(tuple):
    pass


class OddText(str):
    __hash__ = None


def good_rows():
    """Rows of each kind, at both bounds of each number and between."""
    rows = [("turn", day) for day in (0, 1, 8825, LAST)]
    for day in (0, 1, 8825, LAST):
        for word in ("out", "pay", "due"):
            rows.extend((word, day, amount) for amount in (1, 2, 12345, MOST - 1, MOST))
        rows.extend(("fee", day, amount) for amount in (-MOST, 1 - MOST, -1, 0, 1, MOST - 1, MOST))
        for word in ("rate", "late"):
            rows.extend((word, day, rate) for rate in (0, 1, 375, 999999, 1000000))
        rows.extend(("still", day, until) for until in {day + 1, min(day + 2, END), END})
    return rows


class MadeByTheirClasses(unittest.TestCase):
    def made(self, word, day, third):
        return Turn(day) if word == "turn" else KINDS[word](day, third)

    def test_word_row_and_fields(self):
        for word in WORDS:
            for day in (0, 7, LAST):
                entry = self.made(word, day, LAST + 1)
                row = (word, day) if word == "turn" else (word, day, LAST + 1)
                for _ in range(2):
                    self.assertEqual(entry.word(), word)
                    self.assertIs(type(entry.word()), str)
                    self.assertEqual(entry.row(), row)
                    self.assertIs(type(entry.row()), tuple)
                    self.assertEqual(entry.day, day)
                    if word != "turn":
                        self.assertEqual(getattr(entry, FIELDS[word]), LAST + 1)

    def test_each_is_an_entry_and_none_of_the_others(self):
        for word in WORDS:
            entry = self.made(word, 5, 9)
            self.assertIsInstance(entry, Entry)
            self.assertIs(type(entry), KINDS[word])
            for other in WORDS:
                self.assertIs(isinstance(entry, KINDS[other]), other == word)
                self.assertIs(issubclass(KINDS[word], KINDS[other]), other == word)
            self.assertTrue(issubclass(KINDS[word], Entry))
            self.assertFalse(issubclass(Entry, KINDS[word]))

    def test_an_entry_by_itself(self):
        for day in (0, 8825, LAST):
            entry = Entry(day)
            self.assertEqual((entry.word(), entry.row(), entry.day), ("", ("", day), day))
            self.assertIs(type(entry.row()), tuple)
            for kind in KINDS.values():
                self.assertNotIsInstance(entry, kind)

    def test_they_are_not_looked_at(self):
        for third in (-10 ** 40, -1, 0, 1, MOST + 1, 10 ** 40):
            for word in FIELDS:
                entry = self.made(word, 5, third)
                self.assertEqual(entry.row(), (word, 5, third))
                self.assertEqual(getattr(entry, FIELDS[word]), third)
        self.assertEqual(Still(9, 9).row(), ("still", 9, 9))
        self.assertEqual(Still(9, 3).row(), ("still", 9, 3))

    def test_two_entries_have_nothing_in_common(self):
        one, other = Out(1, 2), Out(3, 4)
        self.assertEqual((one.row(), other.row()), (("out", 1, 2), ("out", 3, 4)))


class EntryOf(unittest.TestCase):
    def test_of_good_rows(self):
        for row in good_rows():
            entry = entry_of(row)
            self.assertIs(type(entry), KINDS[row[0]], row)
            self.assertEqual(entry.row(), row)
            self.assertEqual((entry.word(), entry.day), row[:2])
            if row[0] != "turn":
                self.assertEqual(getattr(entry, FIELDS[row[0]]), row[2])

    def test_a_new_entry_each_time(self):
        for row in (("out", 1, 2), ("turn", 3)):
            self.assertIsNot(entry_of(row), entry_of(row))

    def test_of_the_row_of_an_entry(self):
        for entry in some_entries(random.Random(41), 300, 1000):
            again = entry_of(entry.row())
            self.assertIs(type(again), type(entry))
            self.assertEqual(again.row(), entry.row())

    def test_of_things_that_are_tuples_and_texts_too(self):
        self.assertEqual(entry_of(OddTuple(("pay", 3, 4))).row(), ("pay", 3, 4))
        self.assertEqual(entry_of((OddText("pay"), 3, 4)).row()[1:], (3, 4))


class Refused(unittest.TestCase):
    def assert_place(self, place, row):
        for _ in range(2):
            with self.assertRaises(BadEntry) as caught:
                entry_of(row)
            self.assertIs(type(caught.exception), BadEntry)
            self.assertEqual(caught.exception.place, place)
            self.assertIs(type(caught.exception.place), int)
            self.assertIsInstance(caught.exception, LoanError)

    def test_no_tuple(self):
        for thing in other_things():
            if not isinstance(thing, tuple):
                self.assert_place(0, thing)
        for thing in (0, -1, 8825, 10 ** 40, "out", "turn", ["turn", 3], ["out", 3, 4], {"out": 3}, Out(3, 4)):
            self.assert_place(0, thing)

    def test_an_empty_tuple(self):
        self.assert_place(0, ())
        self.assert_place(0, OddTuple())

    def test_another_word(self):
        for word in ("", " ", "Out", "OUT", "out ", " out", "outs", "ou", "o", "pays", "turned", "none", "stil", "0",
                     "entry", "Turn", "out\n"):
            self.assert_place(0, (word,))
            self.assert_place(0, (word, 3))
            self.assert_place(0, (word, 3, 4))
        self.assert_place(0, (OddText("outs"), 3, 4))

    def test_something_else_in_the_words_place(self):
        for thing in other_things() + [0, 1, -1, ("out",), ["out"], {"out"}, b"out", Out, Out(3, 4)]:
            if isinstance(thing, str):
                continue
            for rest in ((), (3,), (3, 4)):
                self.assert_place(0, (thing,) + rest)

    def test_things_too_few_or_too_many(self):
        for word in WORDS:
            many = 2 if word == "turn" else 3
            for length in (1, 2, 3, 4, 5, 9):
                if length != many:
                    self.assert_place(0, (word,) + tuple(range(3, 2 + length)))
        self.assert_place(0, ("turn", 3, None))
        self.assert_place(0, ("pay", 3, 4, None))

    def test_the_second_thing_is_no_day(self):
        for word in WORDS:
            rest = () if word == "turn" else (LAST,)
            for thing in other_things() + [-1, -MOST, END, END + 1, 10 ** 40, -10 ** 40]:
                self.assert_place(1, (word, thing) + rest)

    def test_the_third_one_beyond_its_bounds(self):
        beyond = {"out": (0, -1, -MOST, MOST + 1, 10 ** 40, -10 ** 40),
                  "fee": (-MOST - 1, MOST + 1, 10 ** 40, -10 ** 40),
                  "rate": (-1, 1000001, -375, 10 ** 40, -10 ** 40)}
        for word, like in (("out", "out"), ("pay", "out"), ("due", "out"), ("fee", "fee"), ("rate", "rate"),
                           ("late", "rate")):
            for third in beyond[like]:
                for day in (0, 8825, LAST):
                    self.assert_place(2, (word, day, third))

    def test_an_until_beyond_its_bounds(self):
        for day in (0, 1, 8825, LAST):
            for until in (day, day - 1, -1, END + 1, 10 ** 40, -10 ** 40):
                self.assert_place(2, ("still", day, until))
        self.assert_place(2, ("still", 8825, 0))

    def test_the_third_one_of_another_kind(self):
        for word in FIELDS:
            for thing in other_things():
                self.assert_place(2, (word, 0, thing))

    def test_the_first_wrong_place(self):
        bad_third = {"out": 0, "pay": 0, "due": 0, "fee": MOST + 1, "rate": -1, "late": -1, "still": 0}
        for word, third in bad_third.items():
            self.assert_place(2, (word, 5, third))
            self.assert_place(1, (word, -1, third))
            self.assert_place(1, (word, Hostile(), Hostile()))
            self.assert_place(0, (word, -1, third, 4))
            self.assert_place(0, (word, -1))
            self.assert_place(0, ("no" + word, -1, third))
            self.assert_place(0, [word, -1, third])
            self.assert_place(0, (Hostile(), Hostile(), Hostile()))
        self.assert_place(1, ("turn", -1))
        self.assert_place(0, ("turn", -1, 0))
        self.assert_place(1, ("still", END, END))

    def test_what_is_within_the_row_stays(self):
        inner = [3, 4]
        self.assert_place(2, ("out", 3, inner))
        self.assertEqual(inner, [3, 4])


class SumBy(unittest.TestCase):
    ENTRIES = (("pay", 9, 5), ("out", 3, 100), ("fee", 3, 7), ("pay", 4, 1), ("turn", 3), ("out", 3, 50), ("due", 8, 6),
               ("fee", 3, -7), ("out", 0, 1), ("rate", 3, 375), ("late", 4, 800), ("still", 4, 9), ("due", 8, 6),
               ("pay", 9, 6), ("fee", 9, -2), ("due", LAST, MOST), ("turn", 3), ("turn", 1), ("rate", 3, 400),
               ("still", 4, 6), ("late", 0, 0))
    SUMS = {"out": [(0, 1), (3, 150)], "fee": [(3, 0), (9, -2)], "pay": [(4, 1), (9, 11)],
            "due": [(8, 12), (LAST, MOST)]}
    DAYS = {"out": [0, 3], "fee": [3, 9], "pay": [4, 9], "due": [8, LAST], "turn": [1, 3], "rate": [3],
            "late": [0, 4], "still": [4]}

    def entries(self):
        return [entry_of(row) for row in self.ENTRIES]

    def test_sums(self):
        for word, sums in self.SUMS.items():
            told = sum_by(self.entries(), word)
            self.assertEqual(told, sums)
            self.assertIs(type(told), list)
            self.assertTrue(all(type(row) is tuple for row in told))
            self.assertEqual(sum_by(self.entries()[::-1], word), sums)

    def test_days(self):
        for word, days in self.DAYS.items():
            told = days_of(self.entries(), word)
            self.assertEqual(told, days)
            self.assertIs(type(told), list)
            self.assertEqual(days_of(self.entries()[::-1], word), days)

    def test_without_such_entries(self):
        for word in WORDS:
            for entries in ([], [entry for entry in self.entries() if entry.word() != word], [Entry(3)]):
                self.assertEqual(days_of(entries, word), [])
                if word in self.SUMS:
                    self.assertEqual(sum_by(entries, word), [])

    def test_fees_that_come_to_nought(self):
        for amounts in ([0], [5, -5], [-5, 5], [0, 0], [3, -1, -2]):
            self.assertEqual(sum_by([Fee(6, amount) for amount in amounts], "fee"), [(6, 0)])

    def test_in_every_order(self):
        entries = [Pay(2, 1), Pay(1, 10), Due(1, 100), Pay(2, 1000), Pay(0, 3)]
        for order in itertools.permutations(entries):
            self.assertEqual(sum_by(list(order), "pay"), [(0, 3), (1, 10), (2, 1001)])
            self.assertEqual(days_of(list(order), "pay"), [0, 1, 2])

    def test_great_sums(self):
        self.assertEqual(sum_by([Out(5, MOST)] * 500, "out"), [(5, 500 * MOST)])
        self.assertEqual(sum_by([Pay(5, 10 ** 40), Pay(5, 1)], "pay"), [(5, 10 ** 40 + 1)])

    def test_many_lists(self):
        chance = random.Random(42)
        for many in list(range(12)) * 5 + [500]:
            entries = some_entries(chance, many, 15)
            rows = [entry.row() for entry in entries]
            for word in WORDS:
                days = [day for day in range(20) if any(row[:2] == (word, day) for row in rows)]
                self.assertEqual(days_of(entries, word), days)
                if word in self.SUMS:
                    sums = [(day, sum(row[2] for row in rows if row[:2] == (word, day))) for day in days]
                    self.assertEqual(sum_by(entries, word), sums)

    def test_the_list_and_its_entries_stay(self):
        entries = self.entries()
        kept = list(entries)
        for word in WORDS:
            days_of(entries, word)
            if word in self.SUMS:
                sum_by(entries, word)
        self.assertEqual([id(entry) for entry in entries], [id(entry) for entry in kept])
        self.assertEqual(tuple(entry.row() for entry in entries), self.ENTRIES)

    def test_the_told_list_is_the_askers_own(self):
        entries = self.entries()
        for word in WORDS:
            told = days_of(entries, word)
            told.clear()
            self.assertEqual(days_of(entries, word), self.DAYS[word])
            if word in self.SUMS:
                told = sum_by(entries, word)
                told.clear()
                self.assertEqual(sum_by(entries, word), self.SUMS[word])

    def test_what_is_changed_later_changes_nothing_told(self):
        entries = self.entries()
        sums, days = sum_by(entries, "pay"), days_of(entries, "pay")
        entries.clear()
        self.assertEqual((sums, days), (self.SUMS["pay"], self.DAYS["pay"]))


if __name__ == "__main__":
    unittest.main()
