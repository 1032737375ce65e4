import itertools
import random
import unittest
from fractions import Fraction
from math import floor

from loanroll.debts import Debt

UNITS = (1, 4, 3600000, 3650000, 1335900000)
HUGE = 10 ** 399 + 10 ** 200 + 7
ASKED = ("principal", "units", "owed", "interest", "credit", "rest")


def told_by(debt):
    return {name: getattr(debt, name)() for name in ASKED}


class Sheet:
    """A debt put down in fractions of a cent: what the document's words come to, deed by deed."""

    def __init__(self, unit):
        self.unit = unit
        self.principal = 0
        self.cents = Fraction(0)

    def owed(self):
        return floor(self.cents)

    def put_down(self):
        if self.principal > self.owed():
            self.principal = self.owed() if self.owed() > 0 else 0

    def do(self, deed, much):
        if deed == "lend":
            self.principal += much
            self.cents += much
        elif deed == "fee":
            self.cents += much
        elif deed == "take":
            self.cents -= much
        elif deed == "turn":
            self.principal = self.owed() if self.owed() > 0 else 0
        elif deed == "grow":
            self.cents += Fraction(much, self.unit)
        if deed in ("lend", "fee", "take"):
            self.put_down()

    def told(self):
        owed = self.owed()
        return {"principal": self.principal, "units": int(self.cents * self.unit), "owed": owed,
                "interest": (owed if owed > 0 else 0) - self.principal, "credit": -owed if owed < 0 else 0,
                "rest": int((self.cents - owed) * self.unit)}


def do(debt, deed, much):
    return debt.turn() if deed == "turn" else getattr(debt, deed)(much)


def some_deeds(chance, many, unit, most=1000):
    deeds = []
    for _ in range(many):
        deed = chance.choice(("lend", "fee", "fee", "turn", "take", "take", "grow", "grow"))
        if deed == "fee":
            much = chance.randint(-most, most)
        elif deed == "grow":
            much = chance.randrange(most * unit) if chance.random() < 0.5 else chance.randrange(2 * unit)
        else:
            much = chance.choice((0, 1, chance.randrange(most + 1)))
        deeds.append((deed, much))
    return deeds


class Made(unittest.TestCase):
    def test_a_new_debt(self):
        for unit in UNITS + (HUGE,):
            told = told_by(Debt(unit))
            self.assertEqual(told, dict.fromkeys(ASKED, 0), unit)
            for number in told.values():
                self.assertIs(type(number), int)

    def test_two_new_debts_have_nothing_in_common(self):
        one, other = Debt(4), Debt(4)
        one.lend(7)
        self.assertEqual(told_by(other), dict.fromkeys(ASKED, 0))


class Owed(unittest.TestCase):
    def units_of_4(self, units):
        debt = Debt(4)
        debt.grow(units % 4)
        debt.fee(units // 4)
        self.assertEqual(debt.units(), units)
        return debt

    def test_rounded_down(self):
        rows = [(0, 0, 0), (1, 0, 1), (3, 0, 3), (4, 1, 0), (5, 1, 1), (7, 1, 3), (8, 2, 0),
                (-1, -1, 3), (-3, -1, 1), (-4, -1, 0), (-5, -2, 3), (-8, -2, 0), (-9, -3, 3)]
        for units, owed, rest in rows:
            debt = self.units_of_4(units)
            self.assertEqual((debt.owed(), debt.rest()), (owed, rest), units)

    def test_interest_and_credit(self):
        rows = [(0, 0, 0), (3, 0, 0), (4, 1, 0), (9, 2, 0), (-1, 0, 1), (-4, 0, 1), (-5, 0, 2)]
        for units, interest, credit in rows:
            debt = self.units_of_4(units)
            self.assertEqual((debt.principal(), debt.interest(), debt.credit()), (0, interest, credit), units)

    def test_one_unit_below_nought(self):
        for unit in UNITS:
            debt = Debt(unit)
            debt.grow(unit - 1)
            debt.take(1)
            self.assertEqual((debt.units(), debt.owed(), debt.credit(), debt.rest()), (-1, -1, 1, unit - 1))
            debt.grow(1)
            self.assertEqual((debt.units(), debt.owed(), debt.credit(), debt.rest()), (0, 0, 0, 0))


class Deeds(unittest.TestCase):
    def assert_told(self, debt, principal, units):
        self.assertEqual((debt.principal(), debt.units()), (principal, units))

    def test_each_tells_none(self):
        debt = Debt(4)
        for told in (debt.lend(5), debt.fee(3), debt.fee(-3), debt.turn(), debt.take(2), debt.grow(9), debt.lend(0),
                     debt.fee(0), debt.take(0), debt.grow(0), debt.take(99), debt.turn()):
            self.assertIsNone(told)

    def test_lend(self):
        debt = Debt(4)
        debt.lend(10)
        self.assert_told(debt, 10, 40)
        debt.lend(5)
        self.assert_told(debt, 15, 60)

    def test_fee_leaves_the_principal(self):
        debt = Debt(4)
        debt.lend(10)
        debt.fee(3)
        self.assert_told(debt, 10, 52)
        self.assertEqual(debt.interest(), 3)
        debt.fee(-3)
        self.assert_told(debt, 10, 40)

    def test_fee_below_nought_lowers_the_principal(self):
        debt = Debt(4)
        debt.lend(10)
        debt.fee(-3)
        self.assert_told(debt, 7, 28)
        debt.fee(3)
        self.assert_told(debt, 7, 40)
        debt.fee(-11)
        self.assert_told(debt, 0, -4)
        self.assertEqual(debt.credit(), 1)

    def test_take_goes_to_the_interest_first(self):
        debt = Debt(4)
        debt.lend(10)
        debt.grow(13)
        self.assertEqual((debt.owed(), debt.interest(), debt.rest()), (13, 3, 1))
        debt.take(2)
        self.assert_told(debt, 10, 45)
        self.assertEqual(debt.interest(), 1)
        debt.take(4)
        self.assert_told(debt, 7, 29)
        self.assertEqual((debt.interest(), debt.rest()), (0, 1))
        debt.take(7)
        self.assert_told(debt, 0, 1)
        self.assertEqual((debt.owed(), debt.credit()), (0, 0))
        debt.take(3)
        self.assert_told(debt, 0, -11)
        self.assertEqual((debt.owed(), debt.credit(), debt.rest()), (-3, 3, 1))

    def test_turn_above_nought(self):
        debt = Debt(4)
        debt.lend(10)
        debt.grow(15)
        debt.turn()
        self.assert_told(debt, 13, 55)
        self.assertEqual((debt.interest(), debt.rest()), (0, 3))

    def test_turn_below_nought(self):
        debt = Debt(4)
        debt.take(3)
        debt.turn()
        self.assert_told(debt, 0, -12)
        debt.grow(1)
        debt.turn()
        self.assert_told(debt, 0, -11)

    def test_turn_of_a_new_debt(self):
        debt = Debt(4)
        debt.turn()
        self.assert_told(debt, 0, 0)
        debt.grow(3)
        debt.turn()
        self.assert_told(debt, 0, 3)

    def test_grow_leaves_the_principal(self):
        debt = Debt(4)
        debt.lend(10)
        debt.grow(1000)
        self.assert_told(debt, 10, 1040)
        debt.grow(0)
        self.assert_told(debt, 10, 1040)

    def test_grow_out_of_a_credit(self):
        debt = Debt(4)
        debt.take(2)
        debt.grow(8 + 13)
        self.assert_told(debt, 0, 13)
        self.assertEqual((debt.owed(), debt.interest(), debt.credit(), debt.rest()), (3, 3, 0, 1))

    def test_a_credit_is_eaten_by_lendings(self):
        debt = Debt(4)
        debt.take(10)
        debt.lend(4)
        self.assert_told(debt, 0, -24)
        self.assertEqual(debt.credit(), 6)
        debt.lend(6)
        self.assert_told(debt, 0, 0)
        debt.lend(3)
        self.assert_told(debt, 3, 12)

    def test_a_credit_is_eaten_in_part(self):
        debt = Debt(4)
        debt.take(10)
        debt.grow(1)
        debt.lend(15)
        self.assert_told(debt, 5, 21)
        self.assertEqual((debt.interest(), debt.rest()), (0, 1))

    def test_a_credit_is_eaten_by_fees(self):
        debt = Debt(4)
        debt.take(10)
        debt.fee(7)
        self.assert_told(debt, 0, -12)
        debt.fee(7)
        self.assert_told(debt, 0, 16)
        self.assertEqual((debt.owed(), debt.interest(), debt.credit()), (4, 4, 0))

    def test_amounts_of_nought(self):
        for unit in UNITS:
            for deeds in itertools.product(("lend", "fee", "take", "grow"), repeat=2):
                for before in ([], [("lend", 9)], [("take", 9)], [("lend", 9), ("grow", 2 * unit + 1)]):
                    debt = Debt(unit)
                    for deed, much in before:
                        do(debt, deed, much)
                    told = told_by(debt)
                    for deed in deeds:
                        self.assertIsNone(do(debt, deed, 0))
                    self.assertEqual(told_by(debt), told)

    def test_many_deeds_each_asking_first(self):
        chance = random.Random(31)
        for unit in UNITS:
            for _ in range(12):
                sheet = Sheet(unit)
                debts = [Debt(unit) for _ in ASKED]
                for deed, much in some_deeds(chance, 25, unit):
                    sheet.do(deed, much)
                    for turn, debt in enumerate(debts):
                        do(debt, deed, much)
                        for name in (ASKED[turn:] + ASKED[:turn]) * 2:
                            self.assertEqual(getattr(debt, name)(), sheet.told()[name], (unit, name, deed, much))

    def test_the_bounds_hold(self):
        chance = random.Random(32)
        for unit in UNITS:
            for _ in range(20):
                debt = Debt(unit)
                for deed, much in some_deeds(chance, 40, unit):
                    do(debt, deed, much)
                    told = told_by(debt)
                    self.assertGreaterEqual(told["principal"], 0)
                    self.assertLessEqual(told["principal"], max(0, told["owed"]))
                    self.assertGreaterEqual(told["interest"], 0)
                    self.assertGreaterEqual(told["credit"], 0)
                    self.assertIn(told["rest"], range(unit))
                    self.assertEqual(told["units"], unit * told["owed"] + told["rest"])
                    self.assertEqual(told["principal"] + told["interest"] - told["credit"], told["owed"])

    def test_numbers_of_some_hundred_figures(self):
        chance = random.Random(33)
        for unit in (1, 4, 1335900000, 10 ** 150 + 1, HUGE):
            sheet, debt = Sheet(unit), Debt(unit)
            for deed, much in some_deeds(chance, 60, unit, HUGE):
                sheet.do(deed, much)
                self.assertIsNone(do(debt, deed, much))
                self.assertEqual(told_by(debt), sheet.told())

    def test_nothing_is_near(self):
        debt = Debt(HUGE)
        debt.lend(HUGE)
        debt.grow(HUGE - 1)
        self.assertEqual((debt.owed(), debt.rest(), debt.interest()), (HUGE, HUGE - 1, 0))
        debt.grow(1)
        self.assertEqual((debt.owed(), debt.rest(), debt.interest()), (HUGE + 1, 0, 1))
        debt.take(HUGE + 2)
        self.assertEqual((debt.owed(), debt.rest(), debt.credit(), debt.principal()), (-1, 0, 1, 0))


class InWhateverOrder(unittest.TestCase):
    def after(self, unit, deeds):
        debt = Debt(unit)
        for deed, much in deeds:
            do(debt, deed, much)
        return (debt.owed(), debt.rest(), debt.units())

    def test_few_deeds_in_every_order(self):
        deeds = [("lend", 10), ("fee", -3), ("take", 12), ("grow", 7), ("turn", 0), ("grow", 3)]
        for order in itertools.permutations(deeds):
            self.assertEqual(self.after(4, order), (-3, 2, -10))

    def test_many_deeds(self):
        chance = random.Random(34)
        for unit in UNITS:
            for many in (0, 1, 5, 30, 200):
                deeds = some_deeds(chance, many, unit)
                cents = sum(much for deed, much in deeds if deed in ("lend", "fee"))
                cents -= sum(much for deed, much in deeds if deed == "take")
                grown = sum(much for deed, much in deeds if deed == "grow")
                units = cents * unit + grown
                told = (floor(Fraction(units, unit)), units % unit, units)
                self.assertEqual(self.after(unit, deeds), told)
                at_once = [row for row in deeds if row[0] != "grow"] + [("grow", grown)]
                self.assertEqual(self.after(unit, at_once), told)
                for _ in range(5):
                    chance.shuffle(deeds)
                    self.assertEqual(self.after(unit, deeds), told)


class SideBySide(unittest.TestCase):
    def assert_kinder(self, one, other, unit, more):
        self.assertLessEqual(one.principal(), other.principal())
        self.assertLessEqual(one.units(), other.units() - unit * more)

    def test_pays_sooner(self):
        one, other = Debt(4), Debt(4)
        for debt in (one, other):
            debt.lend(100)
        one.take(30)
        self.assert_kinder(one, other, 4, 30)
        one.grow(7)
        other.grow(10)
        self.assert_kinder(one, other, 4, 30)
        other.take(30)
        self.assert_kinder(one, other, 4, 0)
        self.assertEqual((one.principal(), one.units()), (70, 287))
        self.assertEqual((other.principal(), other.units()), (72, 290))

    def test_by_chance(self):
        chance = random.Random(35)
        for unit in UNITS * 60:
            one, other = Debt(unit), Debt(unit)
            more_taken = less_charged = 0
            for _ in range(40):
                deed = chance.choice(("lend", "fee", "fee", "take", "take", "turn", "grow", "grow"))
                if deed == "lend":
                    amount = chance.randrange(100)
                    one.lend(amount)
                    other.lend(amount)
                elif deed == "take":
                    amount = chance.randrange(100)
                    # From more in all the first one may be taken less at once, down to as much in all.
                    extra = max(-amount, chance.randint(-more_taken, 20))
                    one.take(amount + extra)
                    other.take(amount)
                    more_taken += extra
                elif deed == "fee":
                    amount = chance.randint(-50, 50)
                    fewer = chance.randint(-less_charged, 20)
                    one.fee(amount - fewer)
                    other.fee(amount)
                    less_charged += fewer
                elif deed == "turn":
                    if chance.random() < 0.7:
                        one.turn()
                    other.turn()
                else:
                    units = chance.randrange(30 * unit)
                    one.grow(units - chance.randint(0, min(units, 2 * unit)))
                    other.grow(units)
                self.assert_kinder(one, other, unit, more_taken + less_charged)


class Copies(unittest.TestCase):
    def test_the_same_unit_principal_and_units(self):
        chance = random.Random(36)
        for unit in UNITS:
            debt = Debt(unit)
            for deed, much in [("grow", 0)] + some_deeds(chance, 30, unit):
                do(debt, deed, much)
                told = told_by(debt)
                copy = debt.copy()
                self.assertIs(type(copy), Debt)
                self.assertIsNot(copy, debt)
                self.assertEqual(told_by(copy), told)
                self.assertEqual(told_by(debt), told)
                # What a cent adds shows the copy's unit.
                copy.fee(1)
                self.assertEqual(copy.units(), told["units"] + unit)

    def test_deeds_to_the_one_do_nothing_to_the_other(self):
        deeds = [("lend", 5), ("fee", 2), ("fee", -3), ("turn", 0), ("take", 4), ("grow", 9), ("take", 500)]
        for deed, much in deeds:
            for copied in (True, False):
                debt = Debt(4)
                debt.lend(100)
                debt.grow(30)
                copy = debt.copy()
                told = told_by(debt)
                done, left = (copy, debt) if copied else (debt, copy)
                do(done, deed, much)
                self.assertNotEqual(told_by(done), told)
                self.assertEqual(told_by(left), told)

    def test_both_go_on_alike(self):
        chance = random.Random(37)
        debt = Debt(3650000)
        for deed, much in some_deeds(chance, 20, 3650000):
            do(debt, deed, much)
        copy = debt.copy()
        again = copy.copy()
        for deed, much in some_deeds(chance, 20, 3650000):
            for one in (debt, copy, again):
                do(one, deed, much)
            self.assertEqual(told_by(copy), told_by(debt))
            self.assertEqual(told_by(again), told_by(debt))


if __name__ == "__main__":
    unittest.main()
