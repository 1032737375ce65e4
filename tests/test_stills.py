import itertools
import random
import unittest

from loanroll.stills import joined, moved, stands, still_days

END = 1000000


def days_in(spans):
    """Every day of the spans, one by one."""
    return {day for first, last in spans for day in range(first, last)}


def some_spans(chance, many, days):
    spans = []
    for _ in range(many):
        first = chance.randrange(days)
        spans.append((first, first + 1 + chance.randrange(5)))
    return spans


class Joined(unittest.TestCase):
    def assert_joined(self, spans, told):
        for order in itertools.permutations(spans):
            self.assertEqual(joined(list(order)), told, order)
        self.assertEqual(joined(spans + spans), told)
        self.assertEqual(joined(told), told)

    def test_none(self):
        self.assert_joined([], [])

    def test_one(self):
        for span in ((0, 1), (3, 9), (0, END), (999999, END)):
            self.assert_joined([span], [span])

    def test_apart(self):
        self.assert_joined([(1, 3), (4, 6), (9, 10)], [(1, 3), (4, 6), (9, 10)])
        self.assert_joined([(0, 1), (999999, END)], [(0, 1), (999999, END)])

    def test_crossing(self):
        self.assert_joined([(1, 5), (3, 8)], [(1, 8)])
        self.assert_joined([(1, 5), (4, 8), (7, 12)], [(1, 12)])
        self.assert_joined([(1, 5), (3, 8), (20, 25), (24, 30)], [(1, 8), (20, 30)])

    def test_touching(self):
        self.assert_joined([(1, 3), (3, 6)], [(1, 6)])
        self.assert_joined([(1, 3), (3, 6), (6, 7), (8, 9)], [(1, 7), (8, 9)])
        self.assert_joined([(0, 500000), (500000, END)], [(0, END)])

    def test_a_day_between(self):
        self.assert_joined([(1, 3), (4, 6)], [(1, 3), (4, 6)])
        self.assert_joined([(1, 3), (4, 6), (3, 4)], [(1, 6)])

    def test_holding_one_another(self):
        self.assert_joined([(1, 20), (5, 6)], [(1, 20)])
        self.assert_joined([(1, 20), (5, 6), (8, 20), (1, 2)], [(1, 20)])
        self.assert_joined([(1, 20), (5, 6), (19, 21), (22, 23)], [(1, 21), (22, 23)])
        self.assert_joined([(0, END), (0, 1), (999999, END), (5, 6)], [(0, END)])

    def test_alike(self):
        self.assert_joined([(1, 3), (1, 3)], [(1, 3)])
        self.assert_joined([(1, 3), (1, 4), (5, 6), (5, 6)], [(1, 4), (5, 6)])

    def test_many_lists(self):
        chance = random.Random(23)
        for many in list(range(10)) * 30 + [60]:
            spans = some_spans(chance, many, 40 if many < 10 else 300)
            told = joined(spans)
            self.assertEqual(days_in(told), days_in(spans), spans)
            for span in told:
                self.assertLess(span[0], span[1])
            for one, other in zip(told, told[1:]):
                self.assertLess(one[1], other[0], spans)
            chance.shuffle(spans)
            self.assertEqual(joined(spans), told)
            self.assertEqual(joined(told), told)

    def test_kinds_of_what_is_told(self):
        told = joined([(4, 6), (1, 3), (5, 9)])
        self.assertIs(type(told), list)
        for span in told:
            self.assertIs(type(span), tuple)
            self.assertEqual([type(day) for day in span], [int, int])

    def test_the_spans_stay(self):
        spans = [(4, 6), (1, 3), (5, 9), (4, 6)]
        joined(spans)
        self.assertEqual(spans, [(4, 6), (1, 3), (5, 9), (4, 6)])

    def test_the_told_list_is_the_askers_own(self):
        for spans in ([], [(1, 3)], [(1, 3), (5, 9)], [(5, 9), (2, 6), (0, 1)]):
            handed = list(spans)
            kept = joined(spans)
            other = joined(spans)
            told = joined(spans)
            told.append((50, 60))
            self.assertEqual((other, spans), (kept, handed))
            told.clear()
            self.assertEqual((other, spans), (kept, handed))
            self.assertEqual(joined(spans), kept)

    def test_what_is_changed_later_changes_nothing_told(self):
        spans = [(1, 3), (5, 9)]
        told = joined(spans)
        spans.append((3, 5))
        self.assertEqual(told, [(1, 3), (5, 9)])
        self.assertEqual(joined(spans), [(1, 9)])


class StandsAndMoved(unittest.TestCase):
    SPANS = [(10, 13), (14, 15), (20, 30), (999998, END)]

    def test_on_the_ends_of_spans(self):
        rows = [(9, False), (10, True), (11, True), (12, True), (13, False), (14, True), (15, False), (19, False),
                (20, True), (29, True), (30, False), (31, False), (999997, False), (999998, True), (999999, True),
                (0, False), (END, False)]
        for day, still in rows:
            self.assertIs(stands(self.SPANS, day), still, day)

    def test_moved_there(self):
        rows = [(9, 9), (10, 13), (11, 13), (12, 13), (13, 13), (14, 15), (15, 15), (19, 19), (20, 30), (29, 30),
                (30, 30), (31, 31), (999997, 999997), (999998, END), (999999, END), (0, 0), (END, END)]
        for day, behind in rows:
            self.assertEqual(moved(self.SPANS, day), behind, day)
            self.assertIs(type(moved(self.SPANS, day)), int)

    def test_without_spans(self):
        for day in (0, 1, 500, 999999, END):
            self.assertIs(stands([], day), False)
            self.assertEqual(moved([], day), day)

    def test_all_days_stand(self):
        for day in (0, 1, 500, 999999):
            self.assertIs(stands([(0, END)], day), True)
            self.assertEqual(moved([(0, END)], day), END)
        self.assertIs(stands([(0, END)], END), False)
        self.assertEqual(moved([(0, END)], END), END)

    def test_from_day_0_on(self):
        self.assertEqual([stands([(0, 2)], day) for day in range(4)], [True, True, False, False])
        self.assertEqual([moved([(0, 2)], day) for day in range(4)], [2, 2, 2, 3])

    def test_many_spans(self):
        chance = random.Random(24)
        for many in range(25):
            spans = joined(some_spans(chance, many, 80))
            still = days_in(spans)
            for day in range(90):
                self.assertIs(stands(spans, day), day in still)
                behind = min(other for other in range(day, 100) if other not in still)
                self.assertEqual(moved(spans, day), behind)

    def test_the_spans_stay(self):
        spans = list(self.SPANS)
        for day in (0, 10, 12, 13, END):
            stands(spans, day)
            moved(spans, day)
        self.assertEqual(spans, self.SPANS)

    def test_by_the_spans_as_they_stand_when_asked(self):
        spans = [(1, 3)]
        self.assertEqual((stands(spans, 5), moved(spans, 5)), (False, 5))
        spans.append((5, 9))
        self.assertEqual((stands(spans, 5), moved(spans, 5)), (True, 9))
        spans.clear()
        self.assertEqual((stands(spans, 5), moved(spans, 5)), (False, 5))


class StillDays(unittest.TestCase):
    SPANS = [(10, 13), (14, 15), (20, 30)]

    def test_stretches(self):
        rows = [(0, 10, 0), (0, 11, 1), (9, 10, 0), (10, 11, 1), (10, 13, 3), (11, 13, 2), (11, 12, 1), (10, 14, 3),
                (12, 15, 2), (13, 14, 0), (13, 15, 1), (15, 20, 0), (22, 25, 3), (29, 30, 1), (29, 31, 1),
                (30, 40, 0), (0, 40, 14), (12, 21, 3), (30, END, 0), (0, END, 14)]
        for a, b, many in rows:
            self.assertEqual(still_days(self.SPANS, a, b), many, (a, b))

    def test_alike_or_the_other_way_round(self):
        for a, b in ((0, 0), (11, 11), (25, 25), (END, END), (12, 11), (25, 22), (30, 10), (40, 0), (END, 0), (21, 12)):
            self.assertEqual(still_days(self.SPANS, a, b), 0, (a, b))

    def test_without_spans(self):
        for a, b in ((0, 0), (0, END), (5, 9), (9, 5)):
            self.assertEqual(still_days([], a, b), 0)

    def test_all_days(self):
        self.assertEqual(still_days([(0, END)], 0, END), END)
        self.assertEqual(still_days([(0, END)], 1, END), 999999)
        self.assertEqual(still_days([(0, END)], 999999, END), 1)
        self.assertEqual(still_days([(0, END)], END, END), 0)
        self.assertEqual(still_days([(0, 500000), (500001, END)], 0, END), 999999)

    def test_many_stretches(self):
        chance = random.Random(25)
        for many in range(12):
            spans = joined(some_spans(chance, many, 40))
            still = days_in(spans)
            for a in range(0, 50, 2):
                for b in range(50):
                    told = still_days(spans, a, b)
                    self.assertEqual(told, len([day for day in range(a, b) if day in still]), (spans, a, b))
                    self.assertIs(type(told), int)

    def test_the_spans_stay(self):
        spans = list(self.SPANS)
        still_days(spans, 0, END)
        still_days(spans, 12, 3)
        self.assertEqual(spans, self.SPANS)


if __name__ == "__main__":
    unittest.main()
