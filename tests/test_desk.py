import itertools
import random
import unittest

from loanroll.accounts import account
from loanroll.arrears import open_dues
from loanroll.books import Book
from loanroll.changes import differences
from loanroll.costs import cost, flows_of
from loanroll.counts import Count, count_named
from loanroll.desk import Desk
from loanroll.entries import entry_of
from loanroll.errors import Back, NoDay, NoDays, NoFlow, NoLoan, NoNumber, NoRow, NoTerms, TooMany
from loanroll.leasts import least_even, least_once
from loanroll.months import due_days
from loanroll.plans import Even, Parts, Plan, Steps
from loanroll.rolls import Roll
from loanroll.walks import planned
from tests.refusals import (assert_refused, cents_text, date_text, do_all, entry_text, numbered_rows, other_things,
                            some_deeds)

NAMES = ("plain", "bank", "thirty", "exact")
FIRST = 8766  # 2024-01-01

LOAN = ("loan plain 3",
        "put 2024-01-01 10 out 2024-01-01 10000.00",
        "put 2024-01-01 20 rate 2024-01-01 3.65",
        "put 2024-01-05 30 due 2024-02-01 500.00",
        "put 2024-01-05 31 due 2024-03-01 600.00",
        "put 2024-02-10 40 pay 2024-02-05 300.00",
        "put 2024-03-10 41 pay 2024-03-01 400.00",
        "strike 2024-04-01 40",
        "put 2024-04-02 50 fee 2024-04-02 -5.00")

ASKED = (("owed 2023-12-31 2024-04-02", "0.00"),
         ("owed 2024-01-01 2024-04-02", "10000.00"),
         ("owed 2024-01-11 2024-04-02", "10010.00"),
         ("owed 2024-01-11 2023-12-31", "0.00"),
         ("owed 2024-02-05 2024-01-05", "10035.00"),
         ("owed 2024-02-05 2024-02-10", "9735.00"),
         ("owed 2024-02-05 2024-04-01", "10035.00"),
         ("told 2024-02-04 2024-02-10", "10000.00 34.00 0.00"),
         ("told 2024-02-05 2024-02-10", "9735.00 0.00 0.00"),
         ("told 2023-12-31 2024-02-10", "0.00 0.00 0.00"),
         ("open 2024-01-31 2024-02-10", "-"),
         ("open 2024-02-01 2024-02-10", "2024-02-01 500.00 500.00"),
         ("open 2024-02-05 2024-02-10", "2024-02-01 500.00 200.00"),
         ("open 2024-03-01 2024-02-10", "2024-02-01 500.00 200.00; 2024-03-01 600.00 600.00"),
         ("open 2024-03-01 2024-03-10", "2024-03-01 600.00 400.00"),
         ("entries 2023-12-31", "-"),
         ("entries 2024-01-01", "10 out 2024-01-01 10000.00; 20 rate 2024-01-01 3.65"),
         ("entries 2024-04-02", "10 out 2024-01-01 10000.00; 20 rate 2024-01-01 3.65; 30 due 2024-02-01 500.00; "
                                "31 due 2024-03-01 600.00; 41 pay 2024-03-01 400.00; 50 fee 2024-04-02 -5.00"),
         ("differ 2024-02-05 2024-01-05 2024-02-10", "40 -300.00"),
         ("differ 2024-02-05 2024-02-10 2024-01-05", "40 300.00"),
         ("differ 2024-02-05 2024-02-10 2024-02-11", "-"),
         ("differ 2024-04-02 2024-02-10 2024-04-02", "40 301.52; 41 -401.09; 50 -5.00"),
         ("even 2024-02-10 2024-03-01 1", "9759.33"),
         ("once 2024-02-10 2024-03-01 2024-03-01", "9759.33"),
         ("plan 2024-02-10 2024-03-01 1 plain", "2024-03-01 9759.33"),
         ("plan 2024-01-01 2024-01-31 3 even 4000.00", "2024-01-31 4000.00; 2024-02-29 4000.00; 2024-03-31 2053.83"),
         ("cost 2024-01-05", NoFlow),
         ("cost 2024-04-02", "-"))


def told_desk(rows=LOAN):
    desk = Desk()
    for row in rows:
        assert desk.say(row) == "ok", row
    return desk


def answers(desk):
    """What the desk answers to many rows, refusals by their class, to see whether it stays."""
    told = []
    for row, _ in ASKED:
        try:
            told.append(desk.say(row))
        except NoFlow:
            told.append(NoFlow)
    return told


def listed(texts):
    return "; ".join(texts) or "-"


class Answered(unittest.TestCase):
    def test_ok(self):
        desk = Desk()
        for row in LOAN:
            told = desk.say(row)
            self.assertEqual((told, type(told)), ("ok", str))

    def test_what_is_asked(self):
        desk = told_desk()
        for row, told in ASKED:
            if told is NoFlow:
                assert_refused(self, NoFlow, desk.say, row)
            else:
                self.assertEqual(desk.say(row), told, row)
                self.assertIs(type(desk.say(row)), str)

    def test_each_count_and_grace(self):
        for name, grace in itertools.product(NAMES, (0, 1, 9, 30, 366)):
            desk = told_desk((f"loan {name} {grace}", "put 2024-01-01 1 out 2024-01-01 10000.00",
                              "put 2024-01-01 2 rate 2024-01-01 7.50", "put 2024-01-01 3 late 2024-01-01 900.00",
                              "put 2024-01-01 4 due 2024-01-10 5000.00"))
            rows = [("out", FIRST, 10 ** 6), ("rate", FIRST, 750), ("late", FIRST, 90000), ("due", FIRST + 9, 500000)]
            book = Book(count_named(name), grace, [entry_of(row) for row in rows])
            for day in (FIRST, FIRST + 9, FIRST + 30, FIRST + 45, FIRST + 800):
                self.assertEqual(desk.say(f"owed {date_text(day)} 2024-01-01"), cents_text(account(book, day).owed()))

    def test_told_where_there_is_a_credit(self):
        desk = told_desk(("loan plain 0", "put 2024-01-01 1 pay 2024-01-05 12.34"))
        self.assertEqual(desk.say("told 2024-01-04 2024-01-01"), "0.00 0.00 0.00")
        self.assertEqual(desk.say("told 2024-01-05 2024-01-01"), "0.00 0.00 12.34")
        self.assertEqual(desk.say("owed 2024-01-05 2024-01-01"), "-12.34")
        desk.say("put 2024-01-02 2 out 2024-02-01 50.00")
        self.assertEqual(desk.say("told 2024-02-01 2024-01-02"), "37.66 0.00 0.00")

    def test_told_where_there_is_interest(self):
        desk = told_desk(("loan plain 0", "put 2024-01-01 1 out 2024-01-01 100.00",
                          "put 2024-01-01 2 fee 2024-01-01 0.05", "put 2024-01-01 3 rate 2024-01-01 365.00"))
        self.assertEqual(desk.say("told 2024-01-01 2024-01-01"), "100.00 0.05 0.00")
        self.assertEqual(desk.say("told 2024-01-02 2024-01-01"), "100.00 1.05 0.00")
        self.assertEqual(desk.say("owed 2024-01-02 2024-01-01"), "101.05")

    def test_each_kind_of_entry(self):
        texts = ("out 2024-01-01 0.01", "fee 2024-01-01 -10000000000.00", "fee 2024-01-01 0.00", "turn 4737-11-27",
                 "pay 2000-01-01 10000000000.00", "due 2024-02-29 500.00", "rate 2024-01-01 0.00",
                 "late 2024-01-01 10000.00", "still 2024-04-01 4737-11-27")
        desk = told_desk(("loan thirty 366",))
        for number, text in enumerate(texts, 1):
            self.assertEqual(desk.say(f"put 2024-01-01 {number} {text}"), "ok")
        told = "; ".join(f"{number} {text}" for number, text in enumerate(texts, 1))
        self.assertEqual(desk.say("entries 2024-01-01"), told)

    def test_the_first_and_the_last_number(self):
        desk = told_desk(("loan plain 0", "put 2024-01-01 1000000000 turn 2024-01-01",
                          "put 2024-01-01 1 turn 2024-01-02"))
        self.assertEqual(desk.say("entries 2024-01-01"), "1 turn 2024-01-02; 1000000000 turn 2024-01-01")

    def test_entries_struck_and_put_again(self):
        desk = told_desk(("loan plain 0", "put 2024-01-01 7 turn 2024-01-01", "strike 2024-01-02 7",
                          "put 2024-01-03 7 turn 2024-05-05"))
        self.assertEqual([desk.say(f"entries 2024-01-0{day}") for day in (1, 2, 3)],
                         ["7 turn 2024-01-01", "-", "7 turn 2024-05-05"])

    def test_days_that_are_told_by_months(self):
        desk = told_desk(("loan plain 0", "put 2024-01-01 1 out 2024-01-01 10.00"))
        self.assertEqual(desk.say("plan 2024-01-01 2024-01-31 5 steps 1.00 2.00 0.00 3.00 4.00"),
                         "2024-01-31 1.00; 2024-02-29 2.00; 2024-03-31 0.00; 2024-04-30 3.00; 2024-05-31 4.00")
        self.assertEqual(desk.say("plan 2024-01-01 4737-11-27 1 parts"), "4737-11-27 10.00")
        self.assertEqual(desk.say("plan 2024-01-01 4737-10-27 2 parts"), "4737-10-27 5.00; 4737-11-27 5.00")

    def test_plans_of_each_kind(self):
        desk = told_desk(("loan plain 0", "put 2024-01-01 1 out 2024-01-01 100.00",
                          "put 2024-01-01 2 fee 2024-01-01 7.00"))
        days = ("2024-02-01", "2024-03-01", "2024-04-01")
        for kind, sums in (("plain", ("7.00", "0.00", "100.00")), ("parts", ("40.34", "33.33", "33.33")),
                           ("even 50.00", ("50.00", "50.00", "7.00")), ("even 0.00", ("0.00", "0.00", "107.00")),
                           ("even 107.00", ("107.00", "0.00", "0.00")),
                           ("even 10000000000.00", ("107.00", "0.00", "0.00")),
                           ("steps 10.00", ("0.00", "0.00", "107.00")),
                           ("steps 10.00 0.00", ("0.00", "10.00", "97.00")),
                           ("steps 1.00 10.00 5.00", ("1.00", "10.00", "96.00")),
                           ("steps 99.00 1.00 10.00 5.00", ("1.00", "10.00", "96.00")),
                           ("steps 0.00 10000000000.00 0.00", ("0.00", "107.00", "0.00")),
                           ("steps 0.00", ("0.00", "0.00", "107.00"))):
            told = "; ".join(f"{day} {amount}" for day, amount in zip(days, sums))
            self.assertEqual(desk.say(f"plan 2024-01-01 2024-02-01 3 {kind}"), told, kind)

    def test_plans_of_many_days(self):
        desk = told_desk(("loan plain 0", "put 2024-01-01 1 out 2024-01-01 100.00"))
        told = desk.say("plan 2024-01-01 2024-02-01 360 parts").split("; ")
        self.assertEqual((len(told), told[0], told[-1]), (360, "2024-02-01 0.28", "2054-01-01 0.27"))
        told = desk.say("plan 2024-01-01 2024-02-01 2 steps" + " 1.00" * 500)
        self.assertEqual(told, "2024-02-01 1.00; 2024-03-01 99.00")

    def test_cost(self):
        desk = told_desk(("loan plain 0", "put 2000-01-01 1 out 2000-01-01 100.00",
                          "put 2000-01-02 2 pay 2000-02-01 50.00", "put 2000-01-03 3 pay 2000-03-01 52.00",
                          "put 2000-01-04 2 pay 2000-02-01 500.00", "put 2000-01-05 3 out 2000-03-01 52.00"))
        self.assertEqual(desk.say("cost 2000-01-02"), "-")
        self.assertEqual(desk.say("cost 2000-01-03"), "13216")
        self.assertEqual(desk.say("cost 2000-01-04"), "1000000")
        assert_refused(self, NoFlow, desk.say, "cost 2000-01-01")
        assert_refused(self, NoFlow, desk.say, "cost 2000-01-05")
        flat = told_desk(("loan plain 0", "put 2000-01-01 1 out 2000-01-01 100.00",
                          "put 2000-01-01 2 pay 2000-02-01 100.00"))
        self.assertEqual(flat.say("cost 2000-01-01"), "0")

    def test_sums_beyond_thirty_figures(self):
        # What is owed grows by turns at the greatest rate: no reader would read it, but it is shown.
        desk = told_desk(("loan plain 0", "put 2000-01-01 1 out 2000-01-01 10000000000.00",
                          "put 2000-01-01 2 rate 2000-01-01 10000.00"))
        for place in range(60):
            desk.say(f"put 2000-01-01 {place + 10} turn {2001 + place}-01-01")
        told = desk.say("owed 2061-01-01 2000-01-01")
        roll = Roll(Count(), 0)
        roll.put(0, 1, entry_of(("out", 0, 10 ** 12)))
        roll.put(0, 2, entry_of(("rate", 0, 10 ** 6)))
        for place in range(60):
            roll.put(0, place + 10, entry_of(("turn", due_days(0, 900)[12 * (1 + place)])))
        self.assertEqual(told, cents_text(roll.owed(due_days(0, 900)[12 * 61], 0)))
        self.assertGreater(len(told), 100)
        self.assertEqual(desk.say("once 2000-01-01 2061-01-01 2061-01-01"), told)


def plan_of(kind, sums):
    return {"plain": Plan, "parts": Parts, "even": lambda: Even(sums[0]), "steps": lambda: Steps(sums)}[kind]()


class ByTheModules(unittest.TestCase):
    """Each row answered as the modules tell, for loans by chance."""

    def made(self, seed, name, grace, many=30):
        chance = random.Random(seed)
        deeds = some_deeds(chance, many, tuple(range(1, 12)), days=150, first=FIRST, size=1000, known=FIRST)
        roll = do_all(Roll(count_named(name), grace), deeds)
        desk = Desk()
        desk.say(f"loan {name} {grace}")
        for known, number, entry in deeds:
            if entry is None:
                row = f"strike {date_text(known)} {number}"
            else:
                row = f"put {date_text(known)} {number} {entry_text(entry.row())}"
            self.assertEqual(desk.say(row), "ok")
        return chance, roll, desk

    def test_all_rows(self):
        seen = {"open": set(), "entries": set(), "differ": set(), "credit": 0, "interest": 0}
        for seed, (name, grace) in enumerate(itertools.product(NAMES, (0, 3, 40))):
            chance, roll, desk = self.made(110 + seed, name, grace)
            for known in [FIRST - 1] + roll.knowns() + [FIRST + 500]:
                for _ in range(3):
                    day = FIRST - 1 + chance.randrange(200)
                    self.ask(roll, desk, day, known, seen)
                    other = chance.choice([FIRST - 1] + roll.knowns())
                    told = [f"{number} {cents_text(part)}" for number, part in differences(roll, day, known, other)]
                    seen["differ"].add(min(2, len(told)))
                    asked = f"differ {date_text(day)} {date_text(known)} {date_text(other)}"
                    self.assertEqual(desk.say(asked), listed(told))
                told = [f"{number} {entry_text(row)}" for number, row in numbered_rows(roll.standing(known))]
                seen["entries"].add(min(2, len(told)))
                self.assertEqual(desk.say(f"entries {date_text(known)}"), listed(told))
        self.assertEqual([seen["open"], seen["entries"], seen["differ"]], [{0, 1, 2}] * 3)
        self.assertGreater(min(seen["credit"], seen["interest"]), 20)

    def ask(self, roll, desk, day, known, seen):
        words = f"{date_text(day)} {date_text(known)}"
        debt = account(roll.book(known), day)
        self.assertEqual(desk.say(f"owed {words}"), cents_text(debt.owed()))
        self.assertEqual(desk.say(f"told {words}"),
                         " ".join(cents_text(cents) for cents in (debt.principal(), debt.interest(), debt.credit())))
        seen["credit"] += debt.credit() > 0
        seen["interest"] += debt.interest() > 0
        told = [f"{date_text(row[0])} {cents_text(row[1])} {cents_text(row[2])}"
                for row in open_dues(roll.book(known), day)]
        seen["open"].add(min(2, len(told)))
        self.assertEqual(desk.say(f"open {words}"), listed(told))

    def test_least_sums_plans_and_costs(self):
        seen = {"cost": 0, "refused": 0}
        for seed, (name, grace) in enumerate(itertools.product(NAMES, (0, 30))):
            chance, roll, desk = self.made(140 + seed, name, grace, 16)
            for known in roll.knowns():
                book, shown = roll.book(known), date_text(known)
                first, many = FIRST + chance.randrange(200), chance.randint(1, 6)
                days = due_days(first, many)
                self.assertEqual(desk.say(f"even {shown} {date_text(first)} {many}"),
                                 cents_text(least_even(book, days)))
                until = first + chance.choice((0, 1, 30, 400))
                self.assertEqual(desk.say(f"once {shown} {date_text(first)} {date_text(until)}"),
                                 cents_text(least_once(book, first, until)))
                for kind in ("plain", "parts", "even", "steps"):
                    size = {"even": 1, "steps": chance.randint(1, 8)}.get(kind, 0)
                    sums = [chance.randrange(9000) for _ in range(size)]
                    words = [f"plan {shown} {date_text(first)} {many} {kind}"] + [cents_text(cents) for cents in sums]
                    told = planned(book, days, plan_of(kind, sums))
                    self.assertEqual(desk.say(" ".join(words)),
                                     listed([f"{date_text(day)} {cents_text(cents)}" for day, cents in told]))
                try:
                    told = cost(flows_of(book))
                except NoFlow:
                    seen["refused"] += 1
                    assert_refused(self, NoFlow, desk.say, f"cost {shown}")
                else:
                    seen["cost"] += 1
                    self.assertEqual(desk.say(f"cost {shown}"), "-" if told is None else str(told))
        self.assertGreater(min(seen.values()), 4)


NO_DATES = ("", "-", "x", "8825", "2024-2-29", "2023-02-29", "24-02-29", "02024-02-29", "1999-12-31", "4737-11-28",
            "2024/02/29", "2024-02-29\n", "2024-02-30", "+024-02-29", "12.34", "\u0662024-02-29")
NO_WHOLES = ("", "-", "x", "01", "00", "007", "-1", "+1", "-0", "1.0", "1_0", "1" * 31, "1\n", "\u0663", "2024-01-01")
NO_MANY = NO_WHOLES + ("0", "361", "1000", "9" * 30)
NO_COUNTS = ("", "-", "Plain", "PLAIN", "plane", "count", "365", "plain\n", "Count")
NO_SUMS = ("", "-", "x", "1", "-0.01", "-1.00", "-0.00", "10000000000.01", "9" * 30 + ".00", "1.5", "1.005", "01.00",
           "1,00", "+1.00", ".50", "1.00\n", "2024-01-01")
NO_KINDS = ("", "-", "x", "Plain", "plan", "part", "step", "5.00")
NO_FIRSTS = ("", "-", "x", "Owed", "OWED", "owe", "ok", "pay", "out", "loans", "paper", "kinder", "history", "quit",
             "owed\n", "owed\t", "2024-01-01")

# Good rows, and what is wrong in the place of each of their words.
FORMS = ((("loan", "plain", "0"), (NO_FIRSTS, NO_COUNTS, NO_WHOLES)),
         (("put", "2024-06-01", "7", "pay", "2024-02-29", "12.34"),
          (NO_FIRSTS, NO_DATES, NO_WHOLES, ("", "-", "Pay", "pays", "turn", "still", "rate\n"), NO_DATES,
           ("", "-", "x", "0.00", "-1.00", "10000000000.01", "1", "1.5", "2024-03-01"))),
         (("put", "2024-06-01", "7", "fee", "2024-02-29", "-12.34"),
          (NO_FIRSTS, NO_DATES, NO_WHOLES, ("", "turn", "out", "pay", "due", "rate", "late", "still"), NO_DATES,
           ("", "x", "-10000000000.01", "10000000000.01", "-0.00", "5"))),
         (("put", "2024-06-01", "7", "rate", "2024-02-29", "3.75"),
          (NO_FIRSTS, NO_DATES, NO_WHOLES, ("", "turn", "still"), NO_DATES,
           ("", "x", "10000.01", "-0.01", "3", "2024-03-01"))),
         (("put", "2024-06-01", "7", "still", "2024-02-29", "2024-03-01"),
          (NO_FIRSTS, NO_DATES, NO_WHOLES, ("", "turn", "pay", "rate"), NO_DATES + ("2024-03-01", "2024-03-02"),
           NO_DATES + ("2024-02-29", "2024-02-28"))),
         (("put", "2024-06-01", "7", "turn", "2024-02-29"),
          (NO_FIRSTS, NO_DATES, NO_WHOLES, ("", "pay", "still"), NO_DATES)),
         (("strike", "2024-06-01", "10"), (NO_FIRSTS, NO_DATES, NO_WHOLES)),
         (("owed", "2024-06-01", "2024-06-01"), (NO_FIRSTS, NO_DATES, NO_DATES)),
         (("told", "2024-06-01", "2024-06-01"), (NO_FIRSTS, NO_DATES, NO_DATES)),
         (("open", "2024-06-01", "2024-06-01"), (NO_FIRSTS, NO_DATES, NO_DATES)),
         (("entries", "2024-06-01"), (NO_FIRSTS, NO_DATES)),
         (("differ", "2024-06-01", "2024-06-01", "2024-05-01"), (NO_FIRSTS, NO_DATES, NO_DATES, NO_DATES)),
         (("even", "2024-06-01", "2024-07-01", "12"), (NO_FIRSTS, NO_DATES, NO_DATES, NO_MANY)),
         (("once", "2024-06-01", "2024-07-01", "2024-08-01"), (NO_FIRSTS, NO_DATES, NO_DATES, NO_DATES)),
         (("plan", "2024-06-01", "2024-07-01", "3", "plain"),
          (NO_FIRSTS, NO_DATES, NO_DATES, NO_MANY, NO_KINDS + ("even", "steps"))),
         (("plan", "2024-06-01", "2024-07-01", "3", "parts"),
          (NO_FIRSTS, NO_DATES, NO_DATES, NO_MANY, NO_KINDS + ("even", "steps"))),
         (("plan", "2024-06-01", "2024-07-01", "3", "even", "5.00"),
          (NO_FIRSTS, NO_DATES, NO_DATES, NO_MANY, NO_KINDS + ("plain", "parts"), NO_SUMS)),
         (("plan", "2024-06-01", "2024-07-01", "3", "steps", "5.00"),
          (NO_FIRSTS, NO_DATES, NO_DATES, NO_MANY, NO_KINDS + ("plain", "parts"), NO_SUMS)),
         (("plan", "2024-06-01", "2024-07-01", "3", "steps", "5.00", "6.00", "7.00"),
          (NO_FIRSTS, NO_DATES, NO_DATES, NO_MANY, NO_KINDS + ("plain", "parts", "even"), NO_SUMS, NO_SUMS, NO_SUMS)),
         (("cost", "2024-06-01"), (NO_FIRSTS, NO_DATES)))


def words_put_wrong():
    """Rows in which one word is wrong."""
    for words, wrongs in FORMS:
        for place, things in enumerate(wrongs):
            for thing in things:
                yield " ".join(words[:place] + (thing,) + words[place + 1:])


def blanks_put_wrong():
    for words, _ in FORMS:
        row = " ".join(words)
        yield from (" " + row, row + " ", "  " + row, row + "  ", row + "\n", "\n" + row, "\t" + row, row + "\t",
                    row + ";")
        for place in range(1, len(words)):
            for between in ("  ", "\t", "\n", "", ",", "\u00a0", " \n"):
                yield " ".join(words[:place]) + between + " ".join(words[place:])


def words_too_few_or_too_many():
    for words, _ in FORMS:
        # A put of a turn and steps are shorter and longer rows' beginnings: what they lack or have more is told apart.
        for many in range(len(words)):
            if words[:many] not in [other for other, _ in FORMS] and words[:many][4:5] != ("steps",):
                yield " ".join(words[:many])
        for more in ("x", "1", "2024-06-01", "plain", "1.00", "pay", "-", "ok"):
            if words[4:5] != ("steps",) or more != "1.00":
                yield " ".join(words + (more,))
            yield " ".join((more,) + words)


class NoRows(unittest.TestCase):
    def assert_no_rows(self, things):
        desk = Desk()
        for thing in things:
            assert_refused(self, NoRow, desk.say, thing)
        assert_refused(self, NoLoan, desk.say, "entries 2024-06-01")
        for desk in (told_desk(), FullRoll.full_desk()):
            kept = answers(desk)
            for thing in things:
                assert_refused(self, NoRow, desk.say, thing)
            self.assertEqual(answers(desk), kept)

    def test_the_good_rows_are_good(self):
        for words, _ in FORMS[1:-1]:
            told_desk().say(" ".join(words))
        told_desk(()).say(" ".join(FORMS[0][0]))

    def test_no_texts(self):
        things = [thing for thing in other_things() if not isinstance(thing, str)]
        self.assert_no_rows(things + [0, 1, ["owed", "2024-06-01", "2024-06-01"], ("entries", "2024-06-01"),
                                      ["entries 2024-06-01"], b"entries 2024-06-01", None])

    def test_nothing(self):
        self.assert_no_rows(["", " ", "  ", "\n", "-", ";", "ok"])

    def test_each_word_put_wrong(self):
        rows = list(words_put_wrong())
        self.assertGreater(len(rows), 1000)
        self.assert_no_rows(rows)

    def test_blanks_ahead_behind_twice_or_otherwise(self):
        self.assert_no_rows(list(blanks_put_wrong()))

    def test_words_too_few_or_too_many(self):
        self.assert_no_rows(list(words_too_few_or_too_many()))

    def test_entries_that_are_none(self):
        texts = ("", "turn", "pay", "turn 2024-02-29 1.00", "pay 2024-02-29", "pay 2024-02-29 1.00 1.00",
                 "pay 2024-02-29 0.00", "out 2024-02-29 -1.00", "due 2024-02-29 10000000000.01",
                 "fee 2024-02-29 10000000000.01", "rate 2024-02-29 10000.01", "late 2024-02-29 -0.01",
                 "still 2024-02-29 2024-02-29", "still 2024-02-29 2024-02-28", "still 2024-02-29 4737-11-28",
                 "pay 2023-02-29 1.00", "PAY 2024-02-29 1.00", "pay 1.00 2024-02-29")
        self.assert_no_rows([f"put 2024-06-01 7 {text}" for text in texts] + ["put 2024-06-01 7"])

    def test_plans_with_sums_too_few_or_too_many(self):
        kinds = ("", "plain 1.00", "parts 1.00", "even", "even 1.00 2.00", "steps", "plain parts", "even plain",
                 "steps 1.00 plain", "steps 1.00 2.00 -0.01", "steps 10000000000.01", "even 10000000000.01", "1.00")
        row = "plan 2024-06-01 2024-07-01 3"
        self.assert_no_rows([row] + [f"{row} {kind}" for kind in kinds])

    def test_ahead_of_all_else(self):
        # Each would be refused otherwise, too: by a day of knowing that is back, a number, a grace, days.
        self.assert_no_rows(["put 2000-01-01 0 pay 2024-02-29 0.00", "put 2000-01-01 1000000001 turn 2024-02-30",
                             "strike 2000-01-01 00", "strike 2000-01-01 -1", "loan plane 367", "loan plain 0367",
                             "even 2024-06-01 4737-11-27 361", "even 2024-06-01 4737-11-27 0",
                             "plan 2024-06-01 4737-11-27 12 x", "plan 2024-06-01 4737-11-27 12 even -1.00",
                             "once 2024-06-01 2024-07-01 2024-06-31", "cost 2024-06-31"])


OTHER_ROWS = [" ".join(words) for words, _ in FORMS[1:]]


class NoLoans(unittest.TestCase):
    def test_ahead_of_loan(self):
        desk = Desk()
        for row in OTHER_ROWS + [row for row, _ in ASKED] + list(LOAN[1:]):
            assert_refused(self, NoLoan, desk.say, row)
        self.assertEqual(desk.say("loan plain 3"), "ok")
        for row in LOAN[1:]:
            self.assertEqual(desk.say(row), "ok")
        self.assertEqual(answers(desk), answers(told_desk()))

    def test_ahead_of_all_that_the_stages_refuse(self):
        desk = Desk()
        for row in ("put 2024-06-01 0 turn 2024-01-01", "strike 2024-06-01 1", "strike 2024-06-01 0",
                    "even 2024-06-01 4737-11-27 2", "plan 2024-06-01 4737-11-27 2 plain",
                    "once 2024-06-01 2024-07-02 2024-07-01", "cost 2024-06-01"):
            assert_refused(self, NoLoan, desk.say, row)

    def test_a_second_loan(self):
        desk = told_desk()
        kept = answers(desk)
        for row in ("loan plain 3", "loan bank 0", "loan exact 366", "loan plain 367", "loan thirty " + "9" * 30):
            assert_refused(self, NoLoan, desk.say, row)
            self.assertEqual(answers(desk), kept)

    def test_two_desks(self):
        one, other = Desk(), told_desk()
        assert_refused(self, NoLoan, one.say, "entries 2024-06-01")
        one.say("loan bank 0")
        self.assertEqual(one.say("entries 2024-06-01"), "-")
        self.assertEqual(answers(other), answers(told_desk()))


class FullRoll(unittest.TestCase):
    @staticmethod
    def full_desk(known="2024-06-01"):
        """A desk with five hundred deeds, puts and strikes together."""
        desk = told_desk()
        for place in range(246):
            desk.say(f"put {known} 900 pay 2024-05-05 1.00")
            desk.say(f"strike {known} 900")
        return desk

    def test_too_many_deeds(self):
        desk = self.full_desk()
        kept = answers(desk)
        for row in ("put 2024-06-01 7 turn 2024-01-01", "strike 2024-06-01 10",
                    "put 2024-06-02 10 out 2024-01-01 1.00"):
            assert_refused(self, TooMany, desk.say, row)
        for row in ("put 2024-05-31 7 turn 2024-01-01", "strike 2024-05-31 10", "strike 2024-05-31 0"):
            assert_refused(self, Back, desk.say, row)
        for row in ("put 2024-06-01 0 turn 2024-01-01", "strike 2024-06-01 900", "strike 2024-06-01 1000000001"):
            assert_refused(self, NoNumber, desk.say, row)
        self.assertEqual(answers(desk), kept)

    def test_too_many_days(self):
        desk = told_desk(("loan plain 0",))
        for number in range(1, 142):
            desk.say(f"put 2024-06-01 {number} pay 2024-01-01 1.00")
        for asked in ("even 2024-06-01 2024-07-01 360", "plan 2024-06-01 2024-07-01 360 plain",
                      "plan 2024-06-01 2024-07-01 360 even 0.00"):
            assert_refused(self, TooMany, desk.say, asked)
        self.assertEqual(desk.say("even 2024-06-01 2024-07-01 359"), "0.00")
        self.assertEqual(desk.say("even 2024-05-31 2024-07-01 360"), "0.00")
        self.assertEqual(len(desk.say("plan 2024-06-01 2024-07-01 359 plain").split("; ")), 359)
        assert_refused(self, NoDay, desk.say, "even 2024-06-01 4737-10-28 360")

    def test_too_many_for_a_sum_at_once(self):
        desk = told_desk(("loan plain 0",))
        for number in range(1, 501):
            desk.say(f"put 2024-06-01 {number} pay 2024-01-01 1.00")
        assert_refused(self, TooMany, desk.say, "once 2024-06-01 2024-07-01 2024-07-01")
        assert_refused(self, NoDays, desk.say, "once 2024-06-01 2024-07-01 2024-06-30")
        self.assertEqual(desk.say("once 2024-05-31 2024-07-01 2024-07-01"), "0.00")
        self.assertEqual(desk.say("owed 2024-06-01 2024-06-01"), "-500.00")


class AsTheStagesTell(unittest.TestCase):
    def test_no_terms(self):
        desk = Desk()
        for row in ("loan plain 367", "loan exact 1000", "loan bank " + "9" * 30):
            assert_refused(self, NoTerms, desk.say, row)
            assert_refused(self, NoLoan, desk.say, "entries 2024-06-01")
        self.assertEqual(desk.say("loan plain 366"), "ok")

    def test_no_number(self):
        desk = told_desk()
        kept = answers(desk)
        for number in ("0", "1000000001", "9" * 30):
            assert_refused(self, NoNumber, desk.say, f"put 2024-06-01 {number} turn 2024-01-01")
            assert_refused(self, NoNumber, desk.say, f"strike 2024-06-01 {number}")
        for number in ("1", "40", "1000000000"):
            assert_refused(self, NoNumber, desk.say, f"strike 2024-06-01 {number}")
        self.assertEqual(answers(desk), kept)
        # Those were known on a later day: they do not count.
        self.assertEqual(desk.say("put 2024-04-02 7 turn 2024-01-01"), "ok")

    def test_back(self):
        desk = told_desk()
        kept = answers(desk)
        for row in ("put 2024-04-01 7 turn 2024-01-01", "strike 2024-04-01 10", "put 2000-01-01 0 turn 2024-01-01",
                    "strike 2000-01-01 77"):
            assert_refused(self, Back, desk.say, row)
        self.assertEqual(answers(desk), kept)
        self.assertEqual(desk.say("strike 2024-04-02 10"), "ok")

    def test_no_day(self):
        desk = told_desk()
        for row in ("even 2024-06-01 4737-11-27 2", "even 2024-06-01 4737-10-28 2",
                    "plan 2024-06-01 4737-11-27 2 plain", "plan 2024-06-01 4730-01-01 360 even 1.00",
                    "even 2024-06-01 4710-01-01 360"):
            assert_refused(self, NoDay, desk.say, row)
        self.assertEqual(desk.say("even 2024-06-01 4737-11-27 1"), desk.say("owed 4737-11-27 2024-06-01"))

    def test_no_days(self):
        desk = told_desk()
        for row in ("once 2024-06-01 2024-07-02 2024-07-01", "once 2024-06-01 4737-11-27 2000-01-01"):
            assert_refused(self, NoDays, desk.say, row)

    def test_no_flow(self):
        desk = told_desk(("loan plain 0", "put 2024-01-01 1 pay 2024-01-01 1.00"))
        for known in ("2023-12-31", "2024-01-01"):
            assert_refused(self, NoFlow, desk.say, f"cost {known}")

    def test_behind_each_refused_row_all_is_as_it_was(self):
        desk = told_desk()
        kept = answers(desk)
        for row in (list(words_put_wrong())[::7] + list(LOAN[:1]) + [
                "put 2024-01-01 7 turn 2024-01-01", "put 2024-06-01 0 turn 2024-01-01", "strike 2024-06-01 7",
                "strike 2024-01-01 10", "even 2024-06-01 4737-11-27 2", "cost 2024-01-01"]):
            with self.assertRaises((NoRow, NoLoan, Back, NoNumber, NoDay, NoFlow)):
                desk.say(row)
        self.assertEqual(answers(desk), kept)

    def test_asking_changes_nothing(self):
        desk, other = told_desk(), told_desk()
        for words, _ in FORMS[7:-1]:
            told = desk.say(" ".join(words))
            self.assertEqual((desk.say(" ".join(words)), other.say(" ".join(words))), (told, told))
        self.assertEqual(answers(desk), answers(other))


if __name__ == "__main__":
    unittest.main()
