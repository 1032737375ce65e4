import itertools
import random
import unittest

from loanroll.debts import Debt
from loanroll.plans import Even, Parts, Plan, Steps
from tests.refusals import asked_by_words, debt_of

UNIT = 3650000
MOST = 10 ** 12
LEFTS = (1, 2, 3, 7, 12, 359, 360)


def debt_in_cents(principal, much, rest=0):
    return debt_of(UNIT, principal, UNIT * much + rest)


def owing_more():
    return debt_in_cents(1000, 1040, 5)


def owing_as_much():
    return debt_in_cents(1000, 1000, 5)


def owing_interest_alone():
    return debt_in_cents(0, 40, 5)


def owing_nothing():
    return debt_in_cents(0, 0, 5)


def holding_a_credit():
    return debt_in_cents(0, -30, 5)


def all_plans():
    return [("plain", None, Plan()), ("parts", None, Parts()), ("even", 0, Even(0)), ("even", 70, Even(70)),
            ("even", MOST, Even(MOST)), ("steps", [], Steps([])), ("steps", [7, 8], Steps([7, 8])),
            ("steps", [MOST, 0, 3], Steps([MOST, 0, 3]))]


class Classes(unittest.TestCase):
    def test_three_stand_right_under_plan(self):
        self.assertEqual(Plan.__bases__, (object,))
        for kind in (Even, Parts, Steps):
            self.assertTrue(issubclass(kind, Plan))

    def test_none_of_the_three_stands_under_another_one(self):
        for one, other in itertools.permutations((Even, Parts, Steps), 2):
            self.assertFalse(issubclass(one, other))


class TheLastDay(unittest.TestCase):
    def test_every_plan_asks_all_that_is_owed(self):
        for kind, given, plan in all_plans():
            self.assertEqual(plan.asks(owing_more(), 1), 1040)
            self.assertEqual(plan.asks(owing_as_much(), 1), 1000)
            self.assertEqual(plan.asks(owing_interest_alone(), 1), 40)
            self.assertEqual(plan.asks(owing_nothing(), 1), 0)
            self.assertEqual(plan.asks(holding_a_credit(), 1), 0)
            self.assertEqual(plan.asks(Debt(UNIT), 1), 0)

    def test_more_than_a_sum_may_be(self):
        for kind, given, plan in all_plans():
            self.assertEqual(plan.asks(debt_in_cents(5, 7 * MOST), 1), 7 * MOST)


class Plain(unittest.TestCase):
    def test_asks_the_interest(self):
        for left in LEFTS[1:]:
            self.assertEqual(Plan().asks(owing_more(), left), 40)
            self.assertEqual(Plan().asks(owing_as_much(), left), 0)
            self.assertEqual(Plan().asks(owing_interest_alone(), left), 40)
            self.assertEqual(Plan().asks(owing_nothing(), left), 0)
            self.assertEqual(Plan().asks(holding_a_credit(), left), 0)


class EvenSums(unittest.TestCase):
    def test_below_at_and_above_what_is_owed(self):
        for left in LEFTS[1:]:
            rows = [(0, 0), (1, 1), (39, 39), (40, 40), (1000, 1000), (1039, 1039), (1040, 1040), (1041, 1040),
                    (MOST, 1040)]
            for amount, asked in rows:
                self.assertEqual(Even(amount).asks(owing_more(), left), asked)

    def test_where_nothing_is_owed(self):
        for amount, left in itertools.product((0, 1, MOST), LEFTS):
            self.assertEqual(Even(amount).asks(owing_nothing(), left), 0)
            self.assertEqual(Even(amount).asks(holding_a_credit(), left), 0)


class ByParts(unittest.TestCase):
    def test_a_principal_that_is_divided(self):
        for left, part in ((2, 500), (4, 250), (5, 200), (10, 100), (1000, 1)):
            self.assertEqual(Parts().asks(owing_more(), left), 40 + part)
            self.assertEqual(Parts().asks(owing_as_much(), left), part)

    def test_a_principal_that_is_not(self):
        for left, part in ((3, 334), (7, 143), (12, 84), (999, 2), (360, 3), (1001, 1), (5000, 1)):
            self.assertEqual(Parts().asks(owing_more(), left), 40 + part)
            self.assertEqual(Parts().asks(owing_as_much(), left), part)

    def test_the_least_not_below(self):
        for principal, left in itertools.product(range(60), range(2, 20)):
            part = Parts().asks(debt_in_cents(principal, principal + 4), left) - 4
            self.assertGreaterEqual(part * left, principal)
            self.assertLess((part - 1) * left, principal)

    def test_without_principal(self):
        for left in LEFTS[1:]:
            self.assertEqual(Parts().asks(owing_interest_alone(), left), 40)
            self.assertEqual(Parts().asks(owing_nothing(), left), 0)
            self.assertEqual(Parts().asks(holding_a_credit(), left), 0)

    def test_great_numbers(self):
        principal = 500 * MOST + 1
        self.assertEqual(Parts().asks(debt_in_cents(principal, principal), 500), MOST + 1)


class BySteps(unittest.TestCase):
    def test_as_long_as_what_is_left(self):
        self.assertEqual(Steps([5, 6, 7]).asks(owing_more(), 3), 5)
        self.assertEqual(Steps([5, 6]).asks(owing_more(), 2), 5)

    def test_longer(self):
        self.assertEqual([Steps([3, 4, 5, 6, 7]).asks(owing_more(), left) for left in (5, 4, 3, 2)], [3, 4, 5, 6])

    def test_shorter(self):
        self.assertEqual([Steps([5, 6, 7]).asks(owing_more(), left) for left in (360, 5, 4, 3, 2)], [0, 0, 0, 5, 6])
        self.assertEqual([Steps([5]).asks(owing_more(), left) for left in (360, 3, 2, 1)], [0, 0, 0, 1040])

    def test_the_empty_list(self):
        for left in LEFTS[1:]:
            self.assertEqual(Steps([]).asks(owing_more(), left), 0)
        self.assertEqual(Steps([]).asks(owing_more(), 1), 1040)

    def test_below_at_and_above_what_is_owed(self):
        for amount, asked in ((0, 0), (39, 39), (1039, 1039), (1040, 1040), (1041, 1040), (MOST, 1040)):
            self.assertEqual(Steps([amount, 9]).asks(owing_more(), 2), asked)

    def test_where_nothing_is_owed(self):
        for left in LEFTS:
            self.assertEqual(Steps([5] * 360).asks(owing_nothing(), left), 0)
            self.assertEqual(Steps([5] * 360).asks(holding_a_credit(), left), 0)

    def test_the_list_changed_later(self):
        sums = [5, 6, 7]
        plan = Steps(sums)
        sums[0] = 99
        sums.append(8)
        self.assertEqual([plan.asks(owing_more(), left) for left in (4, 3, 2)], [0, 5, 6])
        sums.clear()
        self.assertEqual([plan.asks(owing_more(), left) for left in (4, 3, 2)], [0, 5, 6])

    def test_the_list_stays(self):
        sums = [5, 6, 7]
        plan = Steps(sums)
        for left in (1, 2, 3, 4, 2):
            plan.asks(owing_more(), left)
        self.assertEqual(sums, [5, 6, 7])


class AllPlans(unittest.TestCase):
    def test_by_the_words(self):
        chance = random.Random(101)
        for _ in range(400):
            principal = chance.choice((0, 1, 359, 360, chance.randrange(10 ** 6), chance.randrange(10 ** 13)))
            much = principal + chance.choice((0, 1, 50, chance.randrange(10 ** 4)))
            debt = debt_in_cents(principal, much, chance.randrange(UNIT))
            sums = [chance.randrange(2 * much + 2) for _ in range(chance.randrange(6))]
            plans = all_plans() + [("steps", sums, Steps(sums)), ("even", much, Even(much))]
            for kind, given, plan in plans:
                left = chance.choice((1, 2, 3, 4, 5, 6, 12, 360))
                asked = plan.asks(debt, left)
                self.assertEqual(asked, asked_by_words(kind, given, principal, much, left))
                self.assertTrue(0 <= asked <= much)

    def test_the_kind_of_what_is_told(self):
        for kind, given, plan in all_plans():
            for left in LEFTS:
                for debt in (owing_more(), owing_nothing(), holding_a_credit()):
                    self.assertIs(type(plan.asks(debt, left)), int)

    def test_the_debt_stays(self):
        for kind, given, plan in all_plans():
            for left in LEFTS:
                for debt in (owing_more(), owing_as_much(), owing_nothing(), holding_a_credit()):
                    kept = (debt.principal(), debt.units(), debt.owed())
                    plan.asks(debt, left)
                    self.assertEqual((debt.principal(), debt.units(), debt.owed()), kept)

    def test_asked_again_in_any_order(self):
        for kind, given, plan in all_plans():
            kept = {left: plan.asks(owing_more(), left) for left in LEFTS}
            for left in LEFTS[::-1] + LEFTS:
                plan.asks(owing_nothing(), left)
                self.assertEqual(plan.asks(owing_more(), left), kept[left])

    def test_by_the_debt_as_it_stands_when_asked(self):
        debt = owing_more()
        self.assertEqual(Plan().asks(debt, 2), 40)
        debt.fee(3)
        self.assertEqual(Plan().asks(debt, 2), 43)
        debt.take(1000)
        self.assertEqual((Plan().asks(debt, 2), Even(70).asks(debt, 2), Plan().asks(debt, 1)), (0, 43, 43))


if __name__ == "__main__":
    unittest.main()
