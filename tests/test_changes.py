import itertools
import random
import unittest

from loanroll.accounts import owed
from loanroll.books import Book
from loanroll.changes import changed, differences, put_kinder
from loanroll.counts import Bank, Count, Exact, Thirty
from loanroll.entries import Due, Fee, Late, Out, Pay, Rate, Still, Turn
from loanroll.kinder import is_kinder
from loanroll.rolls import Roll
from tests.refusals import LAST, DayByDay, do_all, rows_of, some_deeds, standing_by_words, told_by_roll

COUNTS = (Count, Bank, Thirty, Exact)
MOST = 10 ** 9


def roll_of(deeds, count=Count, grace=0):
    return do_all(Roll(count(), grace), deeds)


def changed_by_words(deeds, before, behind):
    one, other = (dict(standing_by_words(deeds, known)) for known in (before, behind))
    told = []
    for number in sorted(set(one) | set(other)):
        rows = [standing[number].row() if number in standing else None for standing in (one, other)]
        if rows[0] != rows[1]:
            told.append(number)
    return told


def rows_between(deeds, before, behind, last):
    """The rows that stand as known on the one, but up to the number last as known on the other one."""
    one, other = (dict(standing_by_words(deeds, known)) for known in (before, behind))
    told = []
    for number in sorted(set(one) | set(other)):
        standing = other if number <= last else one
        if number in standing:
            told.append(standing[number].row())
    return told


class Changed(unittest.TestCase):
    def assert_changed(self, deeds, before, behind, numbers):
        roll = roll_of(deeds)
        self.assertEqual(changed(roll, before, behind), numbers)
        self.assertEqual(changed(roll, behind, before), numbers)
        for known in (before, behind):
            self.assertEqual(changed(roll, known, known), [])

    def test_without_deeds(self):
        self.assert_changed([], 0, LAST, [])

    def test_put_on_the_one_alone(self):
        deeds = [(5, 3, Pay(1, 1)), (9, 7, Pay(1, 1)), (9, 2, Turn(4))]
        self.assert_changed(deeds, 4, 5, [3])
        self.assert_changed(deeds, 5, 8, [])
        self.assert_changed(deeds, 5, 9, [2, 7])
        self.assert_changed(deeds, 8, LAST, [2, 7])
        self.assert_changed(deeds, 0, LAST, [2, 3, 7])

    def test_struck(self):
        deeds = [(5, 3, Pay(1, 1)), (5, 4, Pay(1, 1)), (9, 3, None)]
        self.assert_changed(deeds, 5, 9, [3])
        self.assert_changed(deeds, 8, 9, [3])
        self.assert_changed(deeds, 4, 9, [4])

    def test_put_otherwise(self):
        for other in (Pay(1, 2), Pay(2, 1), Due(1, 1), Out(1, 1), Fee(1, 1), Rate(1, 1), Late(1, 1), Turn(1),
                      Still(1, 2)):
            self.assert_changed([(5, 3, Pay(1, 1)), (5, 1, Turn(9)), (9, 3, other)], 5, 9, [3])
        for one, other in ((Rate(1, 5), Late(1, 5)), (Rate(1, 5), Rate(1, 6)), (Still(1, 5), Still(1, 6)),
                           (Still(1, 5), Still(2, 5)), (Turn(1), Turn(2)), (Fee(1, 5), Fee(1, -5)),
                           (Fee(1, 0), Turn(1))):
            self.assert_changed([(5, 3, one), (9, 3, other)], 5, 9, [3])

    def test_put_again_by_another_entry_of_the_same_row(self):
        for made in (lambda: Pay(1, 2), lambda: Fee(1, 0), lambda: Turn(8), lambda: Rate(1, 0), lambda: Still(1, 9)):
            self.assert_changed([(5, 3, made()), (9, 3, made())], 5, 9, [])
            self.assert_changed([(5, 3, made()), (6, 3, None), (9, 3, made())], 5, 9, [])
        entry = Pay(1, 2)
        self.assert_changed([(5, 3, entry), (9, 3, entry)], 5, 9, [])

    def test_the_same_row_under_another_number(self):
        self.assert_changed([(5, 3, Pay(1, 2)), (9, 3, None), (9, 4, Pay(1, 2))], 5, 9, [3, 4])

    def test_changed_and_changed_back(self):
        deeds = [(5, 3, Pay(1, 1)), (6, 3, Pay(1, 2)), (7, 3, Pay(1, 1)), (8, 3, None), (9, 3, Pay(1, 1)),
                 (9, 4, Turn(1))]
        for before, behind, numbers in ((5, 6, [3]), (5, 7, []), (5, 8, [3]), (5, 9, [4]), (6, 7, [3]), (6, 8, [3]),
                                        (7, 9, [4]), (4, 8, [])):
            self.assert_changed(deeds, before, behind, numbers)

    def test_numbers_rising(self):
        numbers = (3, 1, 20, 100, 9, MOST)
        for order in itertools.permutations(numbers):
            self.assert_changed([(7, number, Pay(1, 1)) for number in order], 6, 7, sorted(numbers))

    def test_many_rolls_by_words(self):
        chance = random.Random(90)
        seen = 0
        for many in list(range(16)) * 5 + [60, 200]:
            deeds = some_deeds(chance, many, (1, 2, 3, 10, 20, MOST), days=3)
            roll = roll_of(deeds)
            knowns = [0, LAST] + [known for known, _, _ in deeds]
            for _ in range(20):
                before, behind = chance.choice(knowns), chance.choice(knowns)
                numbers = changed_by_words(deeds, before, behind)
                self.assertEqual(changed(roll, before, behind), numbers)
                seen += len(numbers)
        self.assertGreater(seen, 500)


class Differences(unittest.TestCase):
    def test_one_put(self):
        roll = roll_of([(5, 1, Out(0, 10000)), (5, 2, Rate(0, 365)), (9, 3, Pay(20, 1000))])
        self.assertEqual(differences(roll, 100, 5, 9), [(3, -1008)])
        self.assertEqual(differences(roll, 100, 9, 5), [(3, 1008)])
        self.assertEqual(differences(roll, 19, 5, 9), [(3, 0)])
        self.assertEqual(differences(roll, 20, 5, 9), [(3, -1000)])

    def test_from_number_to_number(self):
        # From nothing on: what is lent, the rate on it, then what is paid, each as it comes to stand.
        roll = roll_of([(9, 2, Rate(0, 365)), (9, 3, Pay(20, 1000)), (9, 1, Out(0, 10000))])
        self.assertEqual(differences(roll, 100, 8, 9), [(1, 10000), (2, 100), (3, -1008)])
        self.assertEqual(differences(roll, 100, 9, 8), [(1, -10092), (2, 0), (3, 1000)])
        other = roll_of([(9, 1, Rate(0, 365)), (9, 2, Pay(20, 1000)), (9, 3, Out(0, 10000))])
        self.assertEqual(differences(other, 100, 8, 9), [(1, 0), (2, -1000), (3, 10092)])

    def test_put_otherwise_struck_and_new(self):
        deeds = [(5, 1, Out(0, 10000)), (5, 4, Rate(0, 365)), (5, 6, Fee(10, 300)), (9, 6, None), (9, 4, Rate(0, 730)),
                 (9, 9, Pay(50, 500))]
        roll = roll_of(deeds)
        self.assertEqual(differences(roll, 100, 5, 9), [(4, 100), (6, -300), (9, -504)])
        self.assertEqual(differences(roll, 100, 9, 5), [(4, -99), (6, 302), (9, 501)])

    def test_of_several_rates_of_one_day_the_greatest_number_counts(self):
        deeds = [(5, 1, Out(0, 10000)), (5, 4, Rate(0, 365)), (9, 2, Rate(0, 730))]
        self.assertEqual(differences(roll_of(deeds), 100, 5, 9), [(2, 0)])
        deeds = [(5, 1, Out(0, 10000)), (5, 4, Rate(0, 365)), (9, 7, Rate(0, 730))]
        self.assertEqual(differences(roll_of(deeds), 100, 5, 9), [(7, 100)])
        deeds = [(5, 1, Out(0, 10000)), (5, 2, Rate(0, 730)), (5, 4, Rate(0, 365)), (9, 4, None), (9, 3, Rate(0, 0))]
        self.assertEqual(differences(roll_of(deeds), 100, 5, 9), [(3, 0), (4, -100)])

    def test_none_where_nothing_is_changed(self):
        roll = roll_of([(5, 1, Out(0, 10000)), (9, 1, Out(0, 10000))])
        for before, behind in ((5, 5), (5, 9), (9, 5), (9, LAST), (0, 4), (0, 0)):
            self.assertEqual(differences(roll, 100, before, behind), [])

    def test_each_changed_number_is_told_where_it_makes_no_difference(self):
        roll = roll_of([(9, 4, Due(5, 10)), (9, 3, Still(1, 4)), (9, 2, Late(0, 9)), (9, 1, Turn(3)),
                        (9, 5, Fee(3, 0))])
        self.assertEqual(differences(roll, 100, 8, 9), [(number, 0) for number in range(1, 6)])

    def test_books_made_by_hand(self):
        entries = {1: (Out(0, 10000), Out(0, 12000)), 2: (Rate(0, 500), None), 3: (None, Rate(0, 700)),
                   4: (Pay(30, 900), Pay(40, 900)), 5: (Due(20, 400), Due(20, 400)), 6: (None, Late(0, 900))}
        for count, grace in itertools.product(COUNTS, (0, 5)):
            roll = Roll(count(), grace)
            for number, (one, _) in entries.items():
                if one:
                    roll.put(5, number, one)
            for number, (one, other) in entries.items():
                if other:
                    roll.put(9, number, other)
                elif one:
                    roll.strike(9, number)
            for day in (0, 25, 30, 35, 40, 100, LAST):
                told, ahead = [], roll.owed(day, 5)
                for last in (1, 2, 3, 4, 6):
                    standing = [entries[number][1 if number <= last else 0] for number in entries]
                    then = owed(Book(count(), grace, [entry for entry in standing if entry]), day)
                    told.append((last, then - ahead))
                    ahead = then
                self.assertEqual(differences(roll, day, 5, 9), told)
                self.assertEqual(ahead, roll.owed(day, 9))

    def test_together_the_whole_difference(self):
        chance = random.Random(91)
        for count, grace in itertools.product(COUNTS, (0, 3, 366)):
            deeds = some_deeds(chance, 40, tuple(range(1, 15)), size=1000)
            roll = roll_of(deeds, count, grace)
            knowns = [0, LAST] + roll.knowns()
            for _ in range(12):
                day, before, behind = chance.choice((0, 20, 45, 90, LAST)), chance.choice(knowns), chance.choice(knowns)
                told = differences(roll, day, before, behind)
                self.assertEqual([number for number, _ in told], changed(roll, before, behind))
                self.assertEqual(sum(part for _, part in told), roll.owed(day, behind) - roll.owed(day, before))

    def test_number_by_number_day_by_day(self):
        chance = random.Random(92)
        for count, grace in itertools.product(COUNTS, (0, 4)):
            deeds = some_deeds(chance, 30, tuple(range(1, 11)), days=50, first=1480, size=1000, known=1490)
            roll = roll_of(deeds, count, grace)
            for _ in range(6):
                before, behind = chance.choice([1489] + roll.knowns()), chance.choice(roll.knowns())
                day = 1480 + chance.randrange(80)
                sums = []
                for last in [0] + changed_by_words(deeds, before, behind):
                    walk = DayByDay(count(), grace, rows_between(deeds, before, behind, last))
                    sums.append((last, walk.accounts(day, 1480)[-1][1] // count().unit()))
                told = [(one[0], one[1] - ahead[1]) for ahead, one in zip(sums, sums[1:])]
                self.assertEqual(differences(roll, day, before, behind), told)

    def test_a_full_roll(self):
        roll = roll_of([(place // 100, place + 1, Pay(place, 1 + place)) for place in range(500)])
        told = differences(roll, LAST, 0, 4)
        self.assertEqual(told, [(place + 1, -1 - place) for place in range(100, 500)])
        self.assertEqual(differences(roll, LAST, 4, 0), [(number, -part) for number, part in told])


class PutKinder(unittest.TestCase):
    def test_more_paid(self):
        roll = roll_of([(5, 1, Out(0, 10000)), (5, 2, Rate(0, 365)), (9, 3, Pay(20, 1000))])
        self.assertIs(put_kinder(roll, 5, 9), True)
        self.assertIs(put_kinder(roll, 9, 5), False)
        for known in (0, 5, 9):
            self.assertIs(put_kinder(roll, known, known), True)

    def test_each_way(self):
        base = [(5, 1, Out(0, 10000)), (5, 2, Rate(0, 365)), (5, 3, Pay(20, 1000)), (5, 4, Due(30, 500)),
                (5, 5, Fee(9, 40)), (5, 6, Turn(50)), (5, 7, Late(0, 200)), (5, 8, Still(60, 70))]
        kinder = [(2, Rate(0, 364)), (2, None), (3, Pay(19, 1000)), (3, Pay(20, 1001)), (4, Due(31, 500)),
                  (4, Due(30, 499)), (4, None), (5, Fee(10, 40)), (5, Fee(9, 39)), (5, None), (6, None),
                  (7, Late(0, 199)), (7, None), (8, Still(60, 71)), (8, Still(59, 70)), (9, Pay(500, 1)),
                  (9, Fee(500, -1)), (9, Still(80, 81))]
        for number, entry in kinder:
            roll = roll_of(base + [(9, number, entry)])
            self.assertIs(put_kinder(roll, 5, 9), True, (number, entry))
            self.assertIs(put_kinder(roll, 9, 5), False, (number, entry))
        for number, entry in ((1, Out(0, 9999)), (1, Out(1, 10000)), (9, Out(50, 1)), (6, Turn(51)),
                              (3, Pay(21, 1001))):
            roll = roll_of(base + [(9, number, entry)])
            self.assertIs(put_kinder(roll, 5, 9), False, (number, entry))
            self.assertIs(put_kinder(roll, 9, 5), False, (number, entry))

    def test_just_as_the_books(self):
        chance = random.Random(93)
        seen = {True: 0, False: 0}
        words = ("pay", "fee", "due", "rate", "late", "still", "turn")
        for count, grace in itertools.product(COUNTS, (0, 3)):
            for _ in range(14):
                deeds = [(0, 100, Out(0, 5000)), (0, 101, Rate(0, 40000))]
                deeds += some_deeds(chance, 12, tuple(range(1, 9)), days=40, size=100, words=words)
                roll = roll_of(deeds, count, grace)
                knowns = roll.knowns()
                for before, behind in itertools.product(knowns, knowns):
                    told = put_kinder(roll, before, behind)
                    self.assertIs(told, is_kinder(roll.book(behind), roll.book(before)))
                    if before != behind:
                        seen[told] += 1
                    if told:
                        for day in (0, 5, 10, 20, 30, 40, 60, 500, LAST):
                            self.assertLessEqual(roll.owed(day, behind), roll.owed(day, before))
        self.assertGreater(min(seen.values()), 100)


class TheAskersOwn(unittest.TestCase):
    def test_the_roll_stays(self):
        deeds = some_deeds(random.Random(94), 40, tuple(range(1, 9)), size=100)
        roll = roll_of(deeds)
        numbers, knowns = tuple(range(1, 10)), [0] + roll.knowns() + [LAST]
        kept = told_by_roll(roll, numbers, knowns)
        rows = rows_of([entry for _, _, entry in deeds if entry])
        for before, behind in itertools.product(knowns, knowns):
            changed(roll, before, behind)
            differences(roll, 50, before, behind)
            put_kinder(roll, before, behind)
        self.assertEqual(told_by_roll(roll, numbers, knowns), kept)
        self.assertEqual(rows_of([entry for _, _, entry in deeds if entry]), rows)

    def test_told_lists(self):
        roll = roll_of([(5, 1, Out(0, 10000)), (5, 2, Rate(0, 365)), (9, 3, Pay(20, 1000))])
        for ask in (lambda: changed(roll, 0, 9), lambda: differences(roll, 100, 0, 9)):
            told, kept = ask(), ask()
            self.assertIs(type(told), list)
            told.clear()
            self.assertEqual(ask(), kept)
            roll.put(20, 4, Fee(3, 5))
            self.assertEqual((ask(), len(kept)), (kept, 3))
        self.assertEqual({type(number) for number in changed(roll, 0, 9)}, {int})
        for told in differences(roll, 100, 0, 9):
            self.assertEqual((type(told), [type(thing) for thing in told]), (tuple, [int, int]))

    def test_later_deeds_change_nothing(self):
        deeds = some_deeds(random.Random(95), 40, tuple(range(1, 9)), size=100)
        roll = Roll(Count(), 0)
        kept = {}
        for place, deed in enumerate(deeds):
            do_all(roll, [deed])
            if place + 1 == len(deeds) or deeds[place + 1][0] > deed[0]:
                for before in roll.knowns():
                    kept[before, deed[0]] = (changed(roll, before, deed[0]), differences(roll, 50, before, deed[0]),
                                             put_kinder(roll, before, deed[0]))
        for (before, behind), told in kept.items():
            self.assertEqual((changed(roll, before, behind), differences(roll, 50, before, behind),
                              put_kinder(roll, before, behind)), told)


if __name__ == "__main__":
    unittest.main()
