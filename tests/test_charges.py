import random
import unittest

from loanroll.charges import breaks, charge
from loanroll.counts import Bank, Count, Exact, Thirty, count_named
from loanroll.days import day_of
from loanroll.steps import table_of, value_at
from loanroll.stills import joined, stands
from tests.refusals import Tally

END = 1000000
GREAT = 10 ** 60 - 1
NAMES = ["plain", "bank", "thirty", "exact"]
VALUES = [0, 0, 1, 375, 10 ** 6, GREAT]


def holds(spans, day):
    return any(first <= day < last for first, last in spans)


def charge_day_by_day(count, table, spans, a, b):
    """Just what [25] says, over each day by itself."""
    total = 0
    for day in range(a, b):
        if not holds(spans, day):
            values = [value for first, value in table if first <= day]
            total += count.weight(day, day + 1) * (values[-1] if values else 0)
    return total


def some_table(chance, many, a, b):
    return table_of([(chance.randrange(a, b), chance.choice(VALUES)) for _ in range(many)])


def some_stills(chance, many, a, b):
    spans = []
    for _ in range(many):
        first = chance.randrange(a, b)
        spans.append((first, min(first + 1 + chance.randrange(20), END)))
    return joined(spans)


def added(one, other):
    """The table that is on each day the sum of the two."""
    days = sorted({row[0] for row in one + other})
    return [(day, value_at(one, day) + value_at(other, day)) for day in days]


class Breaks(unittest.TestCase):
    TABLE = [(0, 4), (10, 5), (20, 0), (30, 7)]
    SPANS = [(5, 10), (12, 20), (25, 40)]

    def test_between_alone(self):
        self.assertEqual(breaks(self.TABLE, self.SPANS, 0, 100), [5, 10, 12, 20, 25, 30, 40])
        self.assertEqual(breaks(self.TABLE, self.SPANS, 5, 40), [10, 12, 20, 25, 30])
        self.assertEqual(breaks(self.TABLE, self.SPANS, 4, 41), [5, 10, 12, 20, 25, 30, 40])
        self.assertEqual(breaks(self.TABLE, self.SPANS, 10, 20), [12])
        self.assertEqual(breaks(self.TABLE, self.SPANS, 9, 21), [10, 12, 20])
        self.assertEqual(breaks(self.TABLE, self.SPANS, 40, END), [])
        self.assertEqual(breaks(self.TABLE, self.SPANS, 13, 20), [])
        self.assertEqual(breaks(self.TABLE, self.SPANS, 12, 13), [])

    def test_each_once(self):
        self.assertEqual(breaks([(5, 1), (9, 2)], [(5, 9)], 0, 20), [5, 9])
        self.assertEqual(breaks([(9, 2)], [(5, 9)], 0, 20), [5, 9])
        self.assertEqual(breaks([(5, 2)], [(5, 9)], 0, 20), [5, 9])

    def test_rows_of_like_values_are_breaks(self):
        self.assertEqual(breaks([(5, 1), (9, 1)], [], 0, 20), [5, 9])

    def test_of_nothing(self):
        self.assertEqual(breaks([], [], 0, END), [])
        self.assertEqual(breaks([], [(3, 4)], 0, END), [3, 4])
        self.assertEqual(breaks([(3, 4)], [], 0, END), [3])

    def test_ends_of_all_days(self):
        self.assertEqual(breaks([(0, 1), (END, 2)], [(0, END)], 0, END), [])
        self.assertEqual(breaks([(1, 1), (999999, 2)], [(0, 999998)], 0, END), [1, 999998, 999999])

    def test_a_not_below_b(self):
        for a, b in ((7, 7), (10, 10), (0, 0), (END, END), (30, 5), (100, 0), (END, 0), (11, 9)):
            self.assertEqual(breaks(self.TABLE, self.SPANS, a, b), [], (a, b))

    def test_between_breaks_nothing_changes(self):
        chance = random.Random(26)
        for many in range(30):
            table = some_table(chance, many % 7, 0, 200)
            spans = some_stills(chance, many % 5, 0, 200)
            a = chance.randrange(100)
            b = a + chance.randrange(150)
            told = breaks(table, spans, a, b)
            wanted = {row[0] for row in table} | {day for span in spans for day in span}
            self.assertEqual(told, sorted(day for day in wanted if a < day < b))
            start = a
            for end in told + [b]:
                for day in range(start, end):
                    self.assertEqual(value_at(table, day), value_at(table, start))
                    self.assertEqual(stands(spans, day), stands(spans, start))
                start = end

    def test_kinds_of_what_is_told(self):
        told = breaks(self.TABLE, self.SPANS, 0, 100)
        self.assertIs(type(told), list)
        self.assertEqual([type(day) for day in told], [int] * 7)

    def test_table_and_spans_stay(self):
        table, spans = list(self.TABLE), list(self.SPANS)
        breaks(table, spans, 0, 100)
        breaks(table, spans, 100, 0)
        self.assertEqual((table, spans), (self.TABLE, self.SPANS))

    def test_the_told_list_is_the_askers_own(self):
        for a, b in ((0, 100), (5, 5), (13, 20)):
            kept = breaks(self.TABLE, self.SPANS, a, b)
            other = breaks(self.TABLE, self.SPANS, a, b)
            told = breaks(self.TABLE, self.SPANS, a, b)
            told.append(77)
            self.assertEqual(other, kept)
            told.clear()
            self.assertEqual(other, kept)
            self.assertEqual(breaks(self.TABLE, self.SPANS, a, b), kept)


class Charge(unittest.TestCase):
    def test_by_hand(self):
        table = [(10, 3), (20, 5)]
        self.assertEqual(charge(Count(), table, [], 0, 10), 0)
        self.assertEqual(charge(Count(), table, [], 0, 11), 3)
        self.assertEqual(charge(Count(), table, [], 10, 20), 30)
        self.assertEqual(charge(Count(), table, [], 19, 21), 8)
        self.assertEqual(charge(Count(), table, [], 0, 30), 80)
        self.assertEqual(charge(Count(), table, [(12, 22)], 0, 30), 46)
        self.assertEqual(charge(Bank(), table, [(0, 11), (29, 35)], 0, 40), 27 + 45 + 25)
        self.assertEqual(charge(Thirty(), [(0, 1)], [], 0, 366), 360)
        self.assertEqual(charge(Thirty(), [(0, 7)], [], 29, 30), 0)
        self.assertEqual(charge(Thirty(), [(424, 7)], [], 420, 425), 21)
        self.assertEqual(charge(Exact(), [(0, 2)], [], 365, 367), 2 * (365 + 366))

    def test_a_span_that_ends_within_a_month_of_thirty(self):
        first, last = day_of(2001, 2, 28), day_of(2001, 3, 1)
        self.assertEqual(charge(Thirty(), [(0, 1)], [(first, last)], day_of(2001, 2, 1), last), 27)
        self.assertEqual(charge(Thirty(), [(0, 1)], [(last - 3, first)], day_of(2001, 2, 1), last), 28)

    def test_ahead_of_the_first_row(self):
        for name in NAMES:
            self.assertEqual(charge(count_named(name), [(500, GREAT)], [], 0, 500), 0)
            self.assertEqual(charge(count_named(name), [], [], 0, END), 0)

    def test_all_days_stand_still(self):
        for name in NAMES:
            self.assertEqual(charge(count_named(name), [(0, GREAT)], [(0, END)], 0, END), 0)
            self.assertEqual(charge(count_named(name), [(0, GREAT)], [(5, 90)], 5, 90), 0)

    def test_a_not_below_b(self):
        for name in NAMES:
            for a, b in ((0, 0), (30, 30), (END, END), (31, 30), (500, 3), (END, 0)):
                told = charge(count_named(name), [(0, 5), (20, GREAT)], [(40, 50)], a, b)
                self.assertEqual(told, 0, (name, a, b))

    def test_against_the_days_one_by_one(self):
        chance = random.Random(27)
        starts = [0, 20, 50, 360, 400, day_of(2099, 12, 1), day_of(2100, 2, 1), day_of(2400, 1, 30), END - 300]
        for name in NAMES:
            count = count_named(name)
            for turn in range(90):
                low = starts[turn % len(starts)]
                table = some_table(chance, turn % 8, low, low + 300)
                spans = some_stills(chance, turn % 7, low, low + 300)
                a = low + chance.randrange(150)
                b = min(a + chance.randrange(250), END)
                told = charge(count, table, spans, a, b)
                self.assertEqual(told, charge_day_by_day(count, table, spans, a, b), (name, table, spans, a, b))
                self.assertIs(type(told), int)

    def test_every_stretch_of_some_days(self):
        table = [(3, 7), (33, 0), (40, GREAT), (61, 2)]
        spans = [(10, 12), (29, 34), (58, 59)]
        for name in NAMES:
            count = count_named(name)
            for a in range(0, 70, 3):
                for b in range(70):
                    self.assertEqual(charge(count, table, spans, a, b), charge_day_by_day(count, table, spans, a, b))

    def test_all_days(self):
        whole = {"plain": 1000000, "bank": 1000000, "thirty": 985647, "exact": 133590 * 2737 + 366 * 331}
        for name in NAMES:
            count = count_named(name)
            for value in (0, 1, 375, GREAT):
                self.assertEqual(charge(count, [(0, value)], [], 0, END), value * whole[name])
            self.assertEqual(charge(count, [(0, 1)], [(0, 999999)], 0, END), 366 if name == "exact" else 1)
            split = charge(count, [(0, 2), (400000, 5)], [(300000, 300010)], 0, END)
            wanted = 2 * count.weight(0, 300000) + 2 * count.weight(300010, 400000) + 5 * count.weight(400000, END)
            self.assertEqual(split, wanted)

    def test_of_many_days_a_count_is_asked_as_often_as_of_few(self):
        table = [(0, 3), (50, 5)]
        spans = [(10, 20), (60, 70)]
        near, far = Tally(), Tally()
        self.assertEqual(charge(near, table, spans, 0, 100), 40 * 3 + 40 * 5)
        self.assertEqual(charge(far, table, spans, 0, END), 40 * 3 + 999940 * 5)
        self.assertEqual(far.asked, near.asked)
        self.assertLess(far.asked, 100)

    def test_long_tables_and_many_spans(self):
        table = [(day, day % 7) for day in range(0, END, 50)]
        spans = [(day, day + 10) for day in range(20, END, 50)]
        wanted = sum(40 * (day % 7) for day in range(0, END, 50))
        self.assertEqual(charge(Count(), table, spans, 0, END), wanted)

    def test_asked_again(self):
        table, spans = [(0, 3), (50, 5)], [(10, 20)]
        for name in NAMES:
            count = count_named(name)
            told = charge(count, table, spans, 3, 900)
            charge(count, table, spans, 0, END)
            charge(count, [(0, 1)], [], 3, 900)
            self.assertEqual(charge(count, table, spans, 3, 900), told)
            self.assertEqual(charge(count_named(name), list(table), list(spans), 3, 900), told)

    def test_by_table_and_spans_as_they_stand_when_asked(self):
        table, spans = [(0, 3)], []
        self.assertEqual(charge(Count(), table, spans, 0, 100), 300)
        table[0] = (0, 4)
        self.assertEqual(charge(Count(), table, spans, 0, 100), 400)
        table.append((90, 5))
        self.assertEqual(charge(Count(), table, spans, 0, 100), 410)
        spans.append((80, 95))
        self.assertEqual(charge(Count(), table, spans, 0, 100), 345)
        table.clear()
        self.assertEqual(charge(Count(), table, spans, 0, 100), 0)

    def test_nothing_handed_in_is_changed(self):
        table, spans = [(0, 3), (50, 5)], [(10, 20), (60, 70)]
        count = Thirty()
        charge(count, table, spans, 0, 100)
        charge(count, table, spans, 100, 0)
        self.assertEqual((table, spans), ([(0, 3), (50, 5)], [(10, 20), (60, 70)]))
        self.assertEqual(vars(count), {})


class Laws(unittest.TestCase):
    def setUp(self):
        self.chance = random.Random(28)

    def some_days(self, many):
        return sorted(self.chance.choice([0, 29, 30, 58, 59, 60, 366, 424, 425, 600, 999999, END,
                                          self.chance.randrange(END + 1)]) for _ in range(many))

    def test_charges_add(self):
        for turn in range(200):
            count = count_named(NAMES[turn % 4])
            table = some_table(self.chance, turn % 9, 0, [500, END][turn % 2])
            spans = some_stills(self.chance, turn % 6, 0, [500, END][turn % 2])
            a, c, b = self.some_days(3)
            parts = charge(count, table, spans, a, c) + charge(count, table, spans, c, b)
            self.assertEqual(parts, charge(count, table, spans, a, b), (table, spans, a, c, b))

    def test_at_every_day_between(self):
        table, spans = [(3, 7), (33, 0), (40, GREAT), (61, 2)], [(10, 12), (29, 34), (58, 59)]
        for name in NAMES:
            count = count_named(name)
            for c in range(5, 71):
                parts = charge(count, table, spans, 5, c) + charge(count, table, spans, c, 70)
                self.assertEqual(parts, charge(count, table, spans, 5, 70))

    def test_tables_add(self):
        for turn in range(200):
            count = count_named(NAMES[turn % 4])
            one = some_table(self.chance, turn % 9, 0, [500, END][turn % 2])
            other = some_table(self.chance, turn % 5, 0, [500, END][turn % 2])
            spans = some_stills(self.chance, turn % 6, 0, 500)
            a, b = self.some_days(2)
            parts = charge(count, one, spans, a, b) + charge(count, other, spans, a, b)
            self.assertEqual(parts, charge(count, added(one, other), spans, a, b), (one, other, spans, a, b))

    def test_of_a_greater_table_no_less(self):
        for turn in range(200):
            count = count_named(NAMES[turn % 4])
            less = some_table(self.chance, turn % 9, 0, 500)
            greater = added(less, some_table(self.chance, 4, 0, 500))
            spans = some_stills(self.chance, turn % 6, 0, 500)
            a, b = self.some_days(2)
            self.assertGreaterEqual(charge(count, greater, spans, a, b), charge(count, less, spans, a, b))

    def test_with_more_days_that_stand_still_no_more(self):
        for turn in range(200):
            count = count_named(NAMES[turn % 4])
            table = some_table(self.chance, 1 + turn % 9, 0, 500)
            fewer = some_stills(self.chance, turn % 6, 0, 600)
            more = joined(fewer + some_stills(self.chance, 1 + turn % 3, 0, 600))
            a, b = self.some_days(2)
            self.assertLessEqual(charge(count, table, more, a, b), charge(count, table, fewer, a, b))


if __name__ == "__main__":
    unittest.main()
