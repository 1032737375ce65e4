"""What the document promises over the whole program, by the desk's rows."""

import ast
import itertools
import pathlib
import random
import unittest

import loanroll
from loanroll.costs import worth
from loanroll.counts import count_named
from loanroll.desk import Desk
from loanroll.errors import NoFlow
from loanroll.months import due_days
from tests.refusals import (DayByDay, cents_text, date_text, entry_text, rows_of, some_deeds, some_entries,
                            standing_by_words)

NAMES = ("plain", "bank", "thirty", "exact")
FIRST = 8815  # 2024-02-19, ten days ahead of a 29 February
SPAN = 120


def put_row(known, number, row):
    return f"put {date_text(known)} {number} {entry_text(row)}"


def rows_told(deeds):
    """The desk's rows of a roll's deeds."""
    return [f"strike {date_text(known)} {number}" if entry is None else put_row(known, number, entry.row())
            for known, number, entry in deeds]


def desk_of(name, grace, rows):
    desk = Desk()
    for row in [f"loan {name} {grace}"] + list(rows):
        assert desk.say(row) == "ok", row
    return desk


def cents_of(text):
    """What cents a text tells, by its figures alone."""
    return int(text.replace(".", ""))


def owed_at(desk, day, known):
    return cents_of(desk.say(f"owed {date_text(day)} {date_text(known)}"))


def loan_deeds(chance, many, numbers=tuple(range(1, 15))):
    return some_deeds(chance, many, numbers, days=80, first=FIRST, size=1000, known=FIRST + 5)


class Files(unittest.TestCase):
    def trees(self):
        folder = pathlib.Path(loanroll.__file__).parent
        files = sorted(folder.glob("*.py"))
        self.assertGreater(len(files), 20)
        return [(path.name, ast.parse(path.read_text())) for path in files]

    def test_nothing_hangs_on_a_clock_chance_or_files(self):
        for name, tree in self.trees():
            for node in ast.walk(tree):
                self.assertNotIsInstance(node, ast.Import, name)
                if isinstance(node, ast.ImportFrom):
                    self.assertTrue(node.module.startswith("loanroll."), (name, node.module))
                if isinstance(node, ast.Name):
                    self.assertNotIn(node.id, ("open", "print", "input", "exec", "eval", "hash", "id"), name)

    def test_all_is_reckoned_with_whole_numbers(self):
        for name, tree in self.trees():
            for node in ast.walk(tree):
                self.assertNotIsInstance(node, ast.Div, name)
                if isinstance(node, ast.Constant):
                    self.assertNotIsInstance(node.value, (float, complex), name)
                if isinstance(node, ast.Name):
                    self.assertNotIn(node.id, ("float", "round", "pow", "complex"), name)


class Owed(unittest.TestCase):
    def test_at_many_days_as_known_on_many_days(self):
        chance = random.Random(201)
        for name, grace in itertools.product(NAMES, (0, 5, 30)):
            deeds = loan_deeds(chance, 40)
            desk = desk_of(name, grace, rows_told(deeds))
            unit = count_named(name).unit()
            knowns = sorted({known for known, _, _ in deeds})
            for known in [FIRST] + chance.sample(knowns, 5) + [FIRST + 5000]:
                rows = rows_of([entry for _, entry in standing_by_words(deeds, known)])
                accounts = DayByDay(count_named(name), grace, rows).accounts(FIRST + SPAN, FIRST - 3)
                for day in range(FIRST - 3, FIRST + SPAN + 1, 4):
                    principal, units = accounts[day - FIRST + 3]
                    owed = units // unit
                    self.assertEqual(owed_at(desk, day, known), owed)
                    told = (principal, max(0, owed) - principal, max(0, -owed))
                    self.assertEqual(desk.say(f"told {date_text(day)} {date_text(known)}"),
                                     " ".join(cents_text(cents) for cents in told))

    def test_rounded_down_once(self):
        # A cent's interest over many days, told on each of them and as known on each: nothing is lost by the telling.
        desk = desk_of("plain", 0, ["put 2024-01-01 1 out 2024-01-01 0.01", "put 2024-01-01 2 rate 2024-01-01 100.00"])
        told = [owed_at(desk, 8766 + days, 8766) for days in range(0, 1500)]
        self.assertEqual(told, [1 + days // 365 for days in range(0, 1500)])
        # Paid down to nothing on a day, what is left of a cent is still there, but grows no more.
        desk.say("put 2024-01-01 3 pay 2024-12-30 0.01")
        self.assertEqual([owed_at(desk, 8766 + days, 8766) for days in (363, 364, 365, 9999)], [1, 0, 0, 0])

    def test_the_order_of_one_day_s_deeds(self):
        # All on one day: lent 100.00, a fee of 10.00, turned, and paid 5.00; then a day at one percent a day.
        entries = ("out 2024-03-01 100.00", "fee 2024-03-01 10.00", "turn 2024-03-01", "pay 2024-03-01 5.00",
                   "rate 2024-03-01 365.00")
        for order in itertools.permutations(range(5)):
            rows = [f"put 2024-03-01 {number} {entries[place]}" for number, place in enumerate(order, 1)]
            desk = desk_of("plain", 0, rows)
            self.assertEqual(desk.say("told 2024-03-01 2024-03-01"), "105.00 0.00 0.00")
            self.assertEqual(desk.say("told 2024-03-02 2024-03-01"), "105.00 1.05 0.00")

    def test_what_is_behind(self):
        rows = ["put 2024-03-01 1 out 2024-03-01 100.00", "put 2024-03-01 2 late 2024-03-01 365.00",
                "put 2024-03-01 3 due 2024-03-05 40.00", "put 2024-03-01 4 pay 2024-03-12 30.00",
                "put 2024-03-01 5 still 2024-03-15 2024-03-20"]
        desk = desk_of("plain", 3, rows)
        # Late from the eighth on: 0.40 a day; from the twelfth on 0.10; nothing while it stands still.
        for day, owed in (("2024-03-08", "100.00"), ("2024-03-09", "100.40"), ("2024-03-12", "71.60"),
                          ("2024-03-13", "71.70"), ("2024-03-15", "71.90"), ("2024-03-20", "71.90"),
                          ("2024-03-21", "72.00")):
            self.assertEqual(desk.say(f"owed {day} 2024-03-01"), owed)


class AsKnown(unittest.TestCase):
    def asked(self, desk, known):
        """All that is told as known on a day, of some days; refusals by their class."""
        shown = date_text(known)
        rows = [f"entries {shown}", f"cost {shown}", f"even {shown} {date_text(FIRST + 60)} 4",
                f"once {shown} {date_text(FIRST + 60)} {date_text(FIRST + 90)}",
                f"plan {shown} {date_text(FIRST + 60)} 3 parts", f"plan {shown} {date_text(FIRST)} 3 even 9.00",
                f"differ {date_text(FIRST + 90)} {date_text(FIRST + 5)} {shown}"]
        for day in (FIRST, FIRST + 20, FIRST + 50, FIRST + 100, FIRST + 900):
            rows += [f"{word} {date_text(day)} {shown}" for word in ("owed", "told", "open")]
        told = []
        for row in rows:
            try:
                told.append(desk.say(row))
            except NoFlow:
                told.append(NoFlow)
        return told

    def test_later_rows_change_nothing(self):
        chance = random.Random(202)
        for name, grace in itertools.product(NAMES, (0, 7)):
            deeds = loan_deeds(chance, 24)
            desk = desk_of(name, grace, [])
            kept = {}
            for place, (deed, row) in enumerate(zip(deeds, rows_told(deeds))):
                desk.say(row)
                if place + 1 == len(deeds) or deeds[place + 1][0] > deed[0]:
                    kept[deed[0]] = self.asked(desk, deed[0])
            for known, told in kept.items():
                self.assertEqual(self.asked(desk, known), told)

    def test_rows_of_unlike_numbers_in_another_order(self):
        chance = random.Random(203)
        for name in NAMES:
            deeds = loan_deeds(chance, 24)
            one = desk_of(name, 3, rows_told(deeds))
            numbers = sorted({number for _, number, _ in deeds})
            chance.shuffle(numbers)
            # Each number's rows keep their order: so only rows of one day of knowing change places.
            mingled = sorted(sorted(deeds, key=lambda deed: numbers.index(deed[1])), key=lambda deed: deed[0])
            other = desk_of(name, 3, rows_told(mingled))
            for known in sorted({known for known, _, _ in deeds}):
                self.assertEqual(self.asked(other, known), self.asked(one, known))

    def test_what_stands_told_on_other_days(self):
        chance = random.Random(204)
        for name in NAMES:
            deeds = loan_deeds(chance, 24)
            known = deeds[-1][0]
            one = desk_of(name, 3, rows_told(deeds))
            standing = standing_by_words(deeds, known)
            chance.shuffle(standing)
            days = sorted(chance.randrange(known + 1) for _ in standing)
            rows = [put_row(day, number, entry.row()) for day, (number, entry) in zip(days, standing)]
            other = desk_of(name, 3, rows)
            # What was known on earlier days is otherwise, so the differences are left aside.
            told, again = self.asked(one, known), self.asked(other, known)
            self.assertEqual(again[:6] + again[7:], told[:6] + told[7:])

    def test_the_parts_come_to_the_whole_difference(self):
        chance = random.Random(205)
        for name, grace in itertools.product(NAMES, (0, 7)):
            deeds = loan_deeds(chance, 40)
            desk = desk_of(name, grace, rows_told(deeds))
            knowns = [FIRST] + sorted({known for known, _, _ in deeds})
            for _ in range(20):
                before, behind, day = chance.choice(knowns), chance.choice(knowns), FIRST + chance.randrange(SPAN)
                told = desk.say(f"differ {date_text(day)} {date_text(before)} {date_text(behind)}")
                parts = [] if told == "-" else [part.split(" ") for part in told.split("; ")]
                self.assertEqual([int(number) for number, _ in parts], sorted(int(number) for number, _ in parts))
                self.assertEqual(sum(cents_of(cents) for _, cents in parts),
                                 owed_at(desk, day, behind) - owed_at(desk, day, before))


class Kinder(unittest.TestCase):
    def test_who_pays_more_or_sooner_never_owes_more(self):
        chance = random.Random(206)
        for name, grace in itertools.product(NAMES, (0, 7)):
            for _ in range(6):
                entries = some_entries(chance, 14, 80, first=FIRST, size=1000)
                rows = [put_row(FIRST, number, entry.row()) for number, entry in enumerate(entries, 1)]
                day, amount = FIRST + chance.randrange(80), chance.randint(1, 9000)
                sooner, more = chance.randrange(20), chance.randrange(500)
                worse = desk_of(name, grace, rows + [put_row(FIRST, 50, ("pay", day, amount))])
                better = desk_of(name, grace, rows + [put_row(FIRST, 50, ("pay", day - sooner, amount + more))])
                for at in range(FIRST - 20, FIRST + SPAN, 3):
                    gap = (amount + more if at >= day - sooner else 0) - (amount if at >= day else 0)
                    self.assertLessEqual(owed_at(better, at, FIRST), owed_at(worse, at, FIRST) - gap)


class LeastSumsAndPlans(unittest.TestCase):
    def loans(self, seed):
        """Rows of loans of each count by chance, their last day of knowing, and days to be paid on."""
        chance = random.Random(seed)
        for name, grace in itertools.product(NAMES, (0, 7)):
            for _ in range(3):
                deeds = [(FIRST, 30, some_entries(chance, 1, 5, ("out",), FIRST, 100000)[0])] + loan_deeds(chance, 14)
                first, many = FIRST + 40 + chance.randrange(60), chance.randint(1, 6)
                yield name, grace, rows_told(deeds), deeds[-1][0], due_days(first, many)

    def owed_with(self, name, grace, rows, known, paid, last):
        """What is owed on the last day by another desk that was told these pays, too."""
        pays = [put_row(known, 100 + place, ("pay",) + row) for place, row in enumerate(paid) if row[1] > 0]
        return owed_at(desk_of(name, grace, rows + pays), last, known)

    def test_even(self):
        seen = 0
        for name, grace, rows, known, days in self.loans(207):
            desk = desk_of(name, grace, rows)
            cents = cents_of(desk.say(f"even {date_text(known)} {date_text(days[0])} {len(days)}"))
            self.assertLessEqual(self.owed_with(name, grace, rows, known, [(day, cents) for day in days], days[-1]), 0)
            if cents > 0:
                seen += 1
                less = [(day, cents - 1) for day in days]
                self.assertGreater(self.owed_with(name, grace, rows, known, less, days[-1]), 0)
        self.assertGreater(seen, 12)

    def test_once(self):
        seen = 0
        for name, grace, rows, known, days in self.loans(208):
            desk = desk_of(name, grace, rows)
            cents = cents_of(desk.say(f"once {date_text(known)} {date_text(days[0])} {date_text(days[-1])}"))
            self.assertLessEqual(self.owed_with(name, grace, rows, known, [(days[0], cents)], days[-1]), 0)
            if cents > 0:
                seen += 1
                self.assertGreater(self.owed_with(name, grace, rows, known, [(days[0], cents - 1)], days[-1]), 0)
        self.assertGreater(seen, 12)

    def test_plans(self):
        chance = random.Random(209)
        for name, grace, rows, known, days in self.loans(210):
            desk = desk_of(name, grace, rows)
            for kind in ("plain", "parts", f"even {cents_text(chance.randrange(90000))}", "even 0.00",
                         "steps " + " ".join(cents_text(chance.randrange(90000)) for _ in range(chance.randint(1, 7)))):
                told = desk.say(f"plan {date_text(known)} {date_text(days[0])} {len(days)} {kind}").split("; ")
                self.assertEqual([row.split(" ")[0] for row in told], [date_text(day) for day in days])
                paid = [(day, cents_of(row.split(" ")[1])) for day, row in zip(days, told)]
                self.assertGreaterEqual(min(cents for _, cents in paid), 0)
                left = self.owed_with(name, grace, rows, known, paid, days[-1])
                self.assertEqual(left, 0) if paid[-1][1] > 0 else self.assertLessEqual(left, 0)
                for place in range(len(days)):
                    # Each asks no more than is owed behind what was asked on the days ahead.
                    owed = self.owed_with(name, grace, rows, known, paid[:place], days[place])
                    self.assertLessEqual(paid[place][1], max(0, owed))


class Cost(unittest.TestCase):
    def test_the_greatest_at_which_it_is_worth_no_less(self):
        chance = random.Random(211)
        seen = 0
        for _ in range(60):
            lent, many = chance.randrange(1000, 10 ** 7), chance.randint(1, 12)
            pays = [chance.randrange(1, 3 * lent // many) for _ in range(many)]
            days = due_days(FIRST, many + 1)
            rows = [put_row(FIRST, 1, ("out", FIRST, lent))]
            rows += [put_row(FIRST, place + 2, ("pay", days[place + 1], cents)) for place, cents in enumerate(pays)]
            told = desk_of("exact", 0, rows).say(f"cost {date_text(FIRST)}")
            flows = [(0, -lent)] + [(place + 1, cents) for place, cents in enumerate(pays)]
            if told == "-":
                self.assertLess(sum(pays), lent)
            else:
                seen += 1
                self.assertGreaterEqual(worth(flows, int(told)), 0)
                if told != "1000000":
                    self.assertLess(worth(flows, int(told) + 1), 0)
        self.assertGreater(seen, 20)


class Twice(unittest.TestCase):
    def test_the_same_rows_are_answered_alike(self):
        deeds = loan_deeds(random.Random(212), 40)
        asked = [f"owed {date_text(FIRST + day)} {date_text(FIRST + known)}" for day in range(0, 120, 10)
                 for known in range(0, 60, 7)]
        told = [[desk.say(row) for row in asked] for desk in (desk_of("exact", 2, rows_told(deeds)) for _ in range(2))]
        self.assertEqual(told[0], told[1])

    def test_one_desk_does_nothing_to_another(self):
        one, other = desk_of("plain", 0, []), desk_of("bank", 0, [])
        for row in rows_told(loan_deeds(random.Random(213), 20)):
            one.say(row)
            self.assertEqual(other.say(f"entries {date_text(FIRST + 900)}"), "-")


if __name__ == "__main__":
    unittest.main()
