import itertools
import random
import unittest

from loanroll.steps import table_of, value_at

END = 1000000
GREAT = 10 ** 60 - 1


def last_told(pairs, day):
    """The value of the last tuple of the list that has the day."""
    return [value for other, value in pairs if other == day][-1]


def value_row_by_row(table, day):
    value = 0
    for row in table:
        if row[0] <= day:
            value = row[1]
    return value


def some_pairs(chance, many, days):
    return [(chance.randrange(days), chance.choice([0, 1, 375, GREAT])) for _ in range(many)]


class TableOf(unittest.TestCase):
    def test_of_no_pairs(self):
        self.assertEqual(table_of([]), [])

    def test_of_one(self):
        for pair in ((0, 0), (0, 5), (7, 0), (END, GREAT), (999999, 1)):
            self.assertEqual(table_of([pair]), [pair])

    def test_days_come_to_rise(self):
        rows = [(0, 3), (4, 9), (5, 0), (77, GREAT), (END, 1)]
        for pairs in itertools.permutations(rows):
            self.assertEqual(table_of(list(pairs)), rows)

    def test_the_last_tuple_of_a_day_counts(self):
        self.assertEqual(table_of([(5, 1), (5, 2)]), [(5, 2)])
        self.assertEqual(table_of([(5, 2), (5, 1)]), [(5, 1)])
        self.assertEqual(table_of([(5, 2), (5, 0)]), [(5, 0)])
        self.assertEqual(table_of([(5, GREAT), (3, 1), (5, 4), (3, 0), (9, 9)]), [(3, 0), (5, 4), (9, 9)])
        self.assertEqual(table_of([(5, 1), (3, 7), (5, 2), (3, 7), (5, 1)]), [(3, 7), (5, 1)])

    def test_rows_of_like_values_stay(self):
        self.assertEqual(table_of([(8, 5), (2, 5), (4, 5)]), [(2, 5), (4, 5), (8, 5)])

    def test_of_a_table_it_is_the_table(self):
        table = table_of([(9, 1), (3, GREAT), (9, 0), (0, 6)])
        self.assertEqual(table_of(table), table)

    def test_many_lists(self):
        chance = random.Random(21)
        for many in list(range(12)) * 20 + [300]:
            pairs = some_pairs(chance, many, 8 if many < 12 else 100)
            days = sorted({day for day, _ in pairs})
            self.assertEqual(table_of(pairs), [(day, last_told(pairs, day)) for day in days], pairs)

    def test_kinds_of_what_is_told(self):
        told = table_of([(5, GREAT), (3, 0), (5, 1)])
        self.assertIs(type(told), list)
        for row in told:
            self.assertIs(type(row), tuple)
            self.assertEqual([type(part) for part in row], [int, int])

    def test_the_pairs_stay(self):
        pairs = [(9, 1), (3, GREAT), (9, 0), (0, 6)]
        kept = list(pairs)
        table_of(pairs)
        self.assertEqual(pairs, kept)

    def test_the_told_list_is_the_askers_own(self):
        for pairs in ([], [(1, 2)], [(1, 2), (3, 4)], [(9, 1), (3, 5), (9, 0)]):
            kept = table_of(pairs)
            other = table_of(pairs)
            handed = list(pairs)
            told = table_of(pairs)
            told.append((99, 99))
            self.assertEqual((other, pairs), (kept, handed))
            told.clear()
            self.assertEqual((other, pairs), (kept, handed))
            self.assertEqual(table_of(pairs), kept)

    def test_what_is_changed_later_changes_nothing_told(self):
        pairs = [(1, 2), (3, 4)]
        told = table_of(pairs)
        pairs.append((0, 5))
        self.assertEqual(told, [(1, 2), (3, 4)])
        self.assertEqual(table_of(pairs), [(0, 5), (1, 2), (3, 4)])


class ValueAt(unittest.TestCase):
    def test_of_an_empty_table(self):
        for day in (0, 1, 500, 999999, END):
            self.assertEqual(value_at([], day), 0)

    def test_ahead_of_all_days(self):
        for day in (0, 1, 98, 99):
            self.assertEqual(value_at([(100, 5), (200, 6)], day), 0)

    def test_on_each_day_a_day_ahead_and_behind(self):
        table = [(100, 5), (102, GREAT), (200, 0), (300, 7)]
        rows = [(99, 0), (100, 5), (101, 5), (102, GREAT), (103, GREAT), (199, GREAT), (200, 0), (201, 0),
                (299, 0), (300, 7), (301, 7), (999999, 7), (END, 7)]
        for day, value in rows:
            self.assertEqual(value_at(table, day), value, day)

    def test_from_the_first_to_the_last_day(self):
        table = [(0, 3), (1, 4), (999999, 5), (END, 6)]
        told = [value_at(table, day) for day in (0, 1, 2, 999998, 999999, END)]
        self.assertEqual(told, [3, 4, 4, 4, 5, 6])

    def test_of_one_row(self):
        for first in (0, 1, 7, END):
            told = [value_at([(first, 9)], day) for day in (0, 1, 6, 7, 8, 999999, END)]
            self.assertEqual(told, [9 if day >= first else 0 for day in (0, 1, 6, 7, 8, 999999, END)])

    def test_many_tables(self):
        chance = random.Random(22)
        for many in range(40):
            table = table_of(some_pairs(chance, many, 60))
            for day in list(range(62)) + [END]:
                self.assertEqual(value_at(table, day), value_row_by_row(table, day), (table, day))

    def test_of_a_long_table_few_rows_are_looked_at(self):
        class Looked(list):
            looks = 0

            def __getitem__(self, place):
                self.looks += 1
                return list.__getitem__(self, place)

            def __iter__(self):
                raise AssertionError("the rows were gone through one by one")

        table = Looked((day, day + 1) for day in range(0, END, 10))
        for day in (0, 9, 10, 499999, 500000, 999989, 999990, END):
            table.looks = 0
            self.assertEqual(value_at(table, day), day // 10 * 10 + 1 if day < END else 999991)
            self.assertLess(table.looks, 40)

    def test_kinds_of_what_is_told(self):
        for day in (0, 5, 6, END):
            self.assertIs(type(value_at([(5, 0), (6, GREAT)], day)), int)

    def test_the_table_stays(self):
        table = [(3, 4), (5, 6)]
        for day in (0, 3, 4, 5, END):
            value_at(table, day)
        self.assertEqual(table, [(3, 4), (5, 6)])

    def test_by_the_table_as_it_stands_when_it_is_asked(self):
        table = [(3, 4), (5, 6)]
        self.assertEqual(value_at(table, 9), 6)
        table[1] = (5, 7)
        self.assertEqual(value_at(table, 9), 7)
        table.append((8, 0))
        self.assertEqual(value_at(table, 9), 0)
        table.clear()
        self.assertEqual(value_at(table, 9), 0)


if __name__ == "__main__":
    unittest.main()
