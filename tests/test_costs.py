import itertools
import random
import unittest

from loanroll.books import Book
from loanroll.costs import cost, flows_of, worth
from loanroll.counts import Count, count_named
from loanroll.days import day_of
from loanroll.entries import Due, Fee, Late, Out, Pay, Rate, Still, Turn
from loanroll.errors import NoFlow
from loanroll.leasts import least_even, with_pays
from loanroll.months import due_days, months_between
from tests.refusals import LAST, WORDS, Hostile, assert_refused, other_things, some_entries, told_by

MILLION = 10 ** 6
MOST = 10 ** 15


def book_of(entries):
    return Book(Count(), 0, entries)


def worth_by_words(flows, a):
    if not flows:
        return 0
    last = flows[-1][0]
    return sum(amount * MILLION ** month * (MILLION + a) ** (last - month) for month, amount in flows)


def cost_by_words(flows):
    """The greatest number at which the worth is not below 0, sought from 0 on in steps that grow ever finer."""
    if worth_by_words(flows, 0) < 0:
        return None
    told = 0
    for step in (10 ** 5, 10 ** 4, 1000, 100, 10, 1):
        while told + step <= MILLION and worth_by_words(flows, told + step) >= 0:
            told += step
    return told


def some_flows(chance, most_month=360, size=MOST):
    """Flows that cost takes: all that go out ahead of all that come in."""
    many = chance.choice((2, 2, 3, 5, 12, 40))
    months = sorted(chance.sample(range(0, most_month + 1), min(many, most_month + 1)))
    out = chance.randrange(1, len(months))
    return [(month, (-1 if place < out else 1) * chance.randint(1, size)) for place, month in enumerate(months)]


def flow_lists(seed, many):
    chance = random.Random(seed)
    for most, size in itertools.product((1, 5, 30, 360), (5, 10 ** 6, MOST)):
        for _ in range(many):
            yield chance, some_flows(chance, most, size)


class FlowsOf(unittest.TestCase):
    def test_by_hand(self):
        start = day_of(2023, 1, 15)
        entries = [Out(start, 1000), Pay(day_of(2023, 2, 15), 300), Pay(day_of(2023, 4, 15), 400),
                   Pay(day_of(2024, 1, 15), 500)]
        self.assertEqual(flows_of(book_of(entries)), [(0, -1000), (1, 300), (3, 400), (12, 500)])

    def test_whole_months(self):
        start = day_of(2023, 1, 15)
        rows = [((2023, 1, 15), 0), ((2023, 2, 14), 0), ((2023, 2, 15), 1), ((2023, 3, 14), 1), ((2023, 3, 15), 2)]
        for date, month in rows:
            wanted = [(0, -993)] if month == 0 else [(0, -1000), (month, 7)]
            self.assertEqual(flows_of(book_of([Out(start, 1000), Pay(day_of(*date), 7)])), wanted)

    def test_ends_of_months(self):
        start = day_of(2023, 1, 31)
        rows = [((2023, 2, 27), 0), ((2023, 2, 28), 1), ((2023, 3, 30), 1), ((2023, 3, 31), 2), ((2023, 4, 30), 3),
                ((2024, 2, 28), 12), ((2024, 2, 29), 13)]
        for date, month in rows:
            told = flows_of(book_of([Out(start, 1000), Pay(day_of(*date), 7)]))
            self.assertEqual(told, [(0, -993)] if month == 0 else [(0, -1000), (month, 7)])

    def test_several_in_one_month(self):
        start = day_of(2023, 1, 15)
        entries = [Pay(start + 40, 5), Out(start, 1000), Out(start + 3, 200), Pay(start + 9, 50), Pay(start + 33, 6),
                   Out(start + 35, 2), Pay(start + 33, 1)]
        self.assertEqual(flows_of(book_of(entries)), [(0, -1150), (1, 10)])

    def test_a_month_that_comes_to_0_is_left_out(self):
        entries = [Out(0, 100), Pay(5, 100), Out(40, 7), Pay(41, 9), Pay(70, 30), Out(75, 30)]
        self.assertEqual(flows_of(book_of(entries)), [(1, 2)])
        self.assertEqual(flows_of(book_of([Out(0, 100), Pay(5, 100)])), [])

    def test_a_first_one_that_is_a_pay(self):
        # Months are counted from the pay on, and not from the lending.
        start = day_of(2023, 1, 15)
        entries = [Out(day_of(2023, 2, 14), 100), Pay(start, 30), Pay(day_of(2023, 3, 14), 80)]
        self.assertEqual(flows_of(book_of(entries)), [(0, -70), (1, 80)])
        self.assertEqual(flows_of(book_of([Pay(start, 30), Out(start + 31, 100)])), [(0, 30), (1, -100)])
        self.assertEqual(flows_of(book_of([Pay(start, 30)])), [(0, 30)])

    def test_months_beyond_360(self):
        start = day_of(2000, 1, 1)
        self.assertEqual(flows_of(book_of([Out(start, 5), Pay(day_of(2030, 1, 1), 1), Pay(day_of(2030, 2, 1), 2)])),
                         [(0, -5), (360, 1), (361, 2)])
        self.assertEqual(flows_of(book_of([Out(0, 5), Pay(LAST, 9)])), [(0, -5), (months_between(0, LAST), 9)])
        self.assertEqual(flows_of(book_of([Out(LAST, 5)])), [(0, -5)])

    def test_other_entries_are_not_looked_at(self):
        more = [Fee(0, 99), Due(3, 50), Turn(4), Rate(0, 5), Late(0, 7), Still(0, 500), Fee(300, -9)]
        entries = [Out(40, 1000), Pay(71, 7)]
        self.assertEqual(flows_of(book_of(more + entries)), flows_of(book_of(entries)))
        self.assertEqual(flows_of(book_of(entries)), [(0, -1000), (1, 7)])
        for grace, name in ((0, "thirty"), (366, "exact")):
            self.assertEqual(flows_of(Book(count_named(name), grace, more + entries)), [(0, -1000), (1, 7)])

    def test_without_lendings_and_pays(self):
        for entries in ([], [Fee(0, 99), Due(3, 50), Turn(4), Rate(0, 5), Late(0, 7), Still(0, 500)]):
            self.assertEqual(flows_of(book_of(entries)), [])

    def test_by_words(self):
        chance = random.Random(501)
        for many in (1, 2, 5, 20, 60):
            for days in (40, 400, 20000):
                entries = some_entries(chance, many, days, WORDS, chance.randrange(500), 3)
                moves = [entry for entry in entries if entry.word() in ("out", "pay")]
                sums = {}
                for entry in moves:
                    month = months_between(min(move.day for move in moves), entry.day)
                    sums[month] = sums.get(month, 0) + (entry.amount if entry.word() == "pay" else -entry.amount)
                self.assertEqual(flows_of(book_of(entries)), [row for row in sorted(sums.items()) if row[1]])

    def test_kinds_of_what_is_told(self):
        told = flows_of(book_of([Out(0, 5), Pay(90, 6)]))
        self.assertIs(type(told), list)
        for row in told:
            self.assertIs(type(row), tuple)
            self.assertEqual([type(number) for number in row], [int, int])

    def test_the_told_list_is_the_askers_own(self):
        book = book_of([Out(0, 5), Pay(90, 6), Fee(3, 4)])
        kept = told_by(book)
        told, other = flows_of(book), flows_of(book)
        told.clear()
        self.assertEqual((other, flows_of(book)), ([(0, -5), (2, 6)], [(0, -5), (2, 6)]))
        other[0] = None
        self.assertEqual(flows_of(book), [(0, -5), (2, 6)])
        self.assertEqual(told_by(book), kept)


class Worth(unittest.TestCase):
    def test_by_hand(self):
        self.assertEqual(worth([], 5), 0)
        self.assertEqual(worth([(0, 7)], 5), 7)
        self.assertEqual(worth([(2, 7)], 5), 7 * MILLION ** 2)
        self.assertEqual(worth([(0, -100), (1, 101)], 0), MILLION)
        self.assertEqual(worth([(0, -100), (1, 101)], 10000), 0)
        self.assertEqual(worth([(0, -100), (1, 101)], 10001), -100)
        self.assertEqual(worth([(3, -100), (5, 400)], MILLION), 0)

    def test_of_no_flows(self):
        for a in (0, 1, MILLION, MILLION + 1):
            self.assertEqual(worth([], a), 0)
            self.assertIs(type(worth([], a)), int)

    def test_by_words(self):
        chance = random.Random(511)
        for many in (1, 2, 3, 12, 100, 361):
            for size in (3, 10 ** 6, MOST):
                months = sorted(chance.sample(range(0, 361), many))
                flows = [(month, chance.randint(-size, size)) for month in months]
                for a in (0, 1, 2, 4321, chance.randrange(MILLION), MILLION - 1, MILLION, MILLION + 1):
                    self.assertEqual(worth(flows, a), worth_by_words(flows, a))

    def test_amounts_of_0_and_at_the_bounds(self):
        for amounts in itertools.product((-MOST, 0, MOST), repeat=3):
            flows = list(zip((0, 7, 360), amounts))
            for a in (0, 1, MILLION, MILLION + 1):
                self.assertEqual(worth(flows, a), worth_by_words(flows, a))

    def test_months_far_beyond(self):
        flows = [(0, -5), (361, 4), (5000, 9)]
        self.assertEqual(worth(flows, 77), worth_by_words(flows, 77))

    def test_of_a_book_to_the_last_day(self):
        flows = flows_of(book_of([Out(0, 5), Pay(LAST, 9)]))
        self.assertEqual([worth(flows, a) > 0 for a in (0, 1, MILLION)], [True, True, False])

    def test_where_nothing_grows_it_is_the_sum(self):
        for chance, flows in flow_lists(512, 3):
            self.assertEqual(worth(flows, 0), MILLION ** flows[-1][0] * sum(flow[1] for flow in flows))

    def test_what_was_given_stays(self):
        flows = [(0, -5), (3, 4), (9, 9)]
        first = worth(flows, 9)
        self.assertEqual((flows, worth(flows, 9)), ([(0, -5), (3, 4), (9, 9)], first))
        flows.pop()
        self.assertEqual(worth(flows, 9), worth_by_words([(0, -5), (3, 4)], 9))


class Cost(unittest.TestCase):
    def test_by_hand(self):
        rows = [([(0, -100), (1, 101)], 10000), ([(0, -100), (1, 100)], 0), ([(0, -100), (1, 99)], None),
                ([(0, -100), (2, 121)], 100000), ([(0, -100), (1, 199)], 990000), ([(0, -100), (1, 200)], MILLION),
                ([(0, -100), (1, 201)], MILLION), ([(0, -3), (1, 4)], 333333), ([(0, -1), (360, MOST)], 100694),
                ([(0, -MOST), (360, 1)], None), ([(0, -100), (1, -50), (2, 50), (3, 101)], 2849),
                ([(359, -MOST), (360, MOST)], 0), ([(0, -MILLION), (1, MILLION + 1)], 1),
                ([(0, -MILLION), (1, MILLION - 1)], None)]
        for flows, wanted in rows:
            self.assertEqual((cost(flows), cost_by_words(flows)), (wanted, wanted))

    def test_by_words(self):
        seen = {"none": 0, "most": 0, "between": 0}
        for chance, flows in flow_lists(521, 6):
            told = cost(flows)
            self.assertEqual(told, cost_by_words(flows))
            seen["none" if told is None else "most" if told == MILLION else "between"] += 1
        self.assertGreater(min(seen.values()), 5)

    def test_at_it_and_at_one_more(self):
        for chance, flows in flow_lists(522, 6):
            told = cost(flows)
            if told is None:
                self.assertLess(worth_by_words(flows, 0), 0)
                continue
            self.assertIs(type(told), int)
            self.assertTrue(0 <= told <= MILLION)
            self.assertGreaterEqual(worth_by_words(flows, told), 0)
            self.assertGreaterEqual(worth_by_words(flows, told // 2), 0)
            if told < MILLION:
                for a in (told + 1, (told + 1 + MILLION) // 2, MILLION):
                    self.assertLess(worth_by_words(flows, a), 0)

    def test_what_is_just_worth_as_much(self):
        # So much comes in that at a the worth is 0, or one short of it.
        for a in (1, 2, 999, 250000, MILLION - 1, MILLION):
            grown = (MILLION + a) ** 2
            self.assertEqual(cost([(0, -10 ** 12), (2, grown)]), a)
            self.assertEqual(cost([(0, -10 ** 12), (2, grown - 1)]), a - 1)

    def test_361_flows(self):
        for out in (1, 100, 360):
            flows = [(month, -MOST if month < out else MOST - month) for month in range(361)]
            self.assertEqual(cost(flows), cost_by_words(flows))

    def test_all_amounts_times_a_number(self):
        for chance, flows in flow_lists(523, 4):
            if max(abs(amount) for month, amount in flows) <= MOST // 1000:
                for times in (1, 2, 7, 1000):
                    self.assertEqual(cost([(month, amount * times) for month, amount in flows]), cost(flows))

    def test_all_months_put_off(self):
        for chance, flows in flow_lists(524, 4):
            for later in (1, 7, 360 - flows[-1][0]):
                if flows[-1][0] + later <= 360:
                    self.assertEqual(cost([(month + later, amount) for month, amount in flows]), cost(flows))

    def test_more_that_comes_in_or_less_that_goes_out(self):
        more = 0
        for chance, flows in flow_lists(525, 6):
            place = chance.randrange(len(flows))
            month, amount = flows[place]
            if amount in (-1, MOST):
                continue
            most = MOST if amount > 0 else -1
            other = flows[:place] + [(month, chance.randint(amount + 1, most))] + flows[place + 1:]
            # None is less than any number.
            one, two = [-1 if each is None else each for each in (cost(flows), cost(other))]
            self.assertGreaterEqual(two, one)
            more += two > one
        self.assertGreater(more, 10)

    def test_of_a_book(self):
        # A hundredth a month for twelve months, paid evenly: rounded up to a cent, which costs no millionth more.
        start = day_of(2023, 1, 1)
        book = Book(count_named("thirty"), 0, [Out(start, 10 ** 8), Rate(start, 1200)] +
                    [Turn(day) for day in due_days(start, 13)])
        days = due_days(start, 13)[1:]
        flows = flows_of(with_pays(book, days, least_even(book, days)))
        self.assertEqual([flow[0] for flow in flows], list(range(13)))
        self.assertEqual(cost(flows), 10000)

    def test_what_was_given_stays(self):
        for chance, flows in flow_lists(526, 1):
            kept = list(flows)
            first = cost(flows)
            self.assertEqual((flows, cost(flows)), (kept, first))
        flows = [(0, -100), (1, 101), (2, 50)]
        cost(flows)
        flows.pop()
        self.assertEqual(cost(flows), 10000)


class Refused(unittest.TestCase):
    def assert_no_flow(self, thing):
        assert_refused(self, NoFlow, cost, thing)

    def test_whatever_is_no_list(self):
        for thing in other_things() + [0, 5, "flows", ((0, -5), (1, 6)), {0: -5, 1: 6}, {(0, -5), (1, 6)},
                                       iter([(0, -5), (1, 6)]), Hostile()]:
            self.assert_no_flow(thing)

    def test_how_many(self):
        self.assert_no_flow([])
        self.assert_no_flow([(0, -5)])
        self.assert_no_flow([(0, 5)])
        months = [(month, -5 if month < 9 else 6) for month in range(361)]
        self.assertIsNotNone(cost(months))
        self.assertEqual(cost(months[:2] + [(2, 60)]), cost_by_words(months[:2] + [(2, 60)]))
        self.assert_no_flow(months + [(361, 6)])
        self.assert_no_flow(months + [(360, 6)])
        self.assert_no_flow([(0, -5)] + months)

    def test_what_is_no_tuple_of_two_whole_numbers(self):
        wrong = other_things() + [[0, -5], [1, 6], (), (1,), (1, 6, 0), (1, 6, None), "16", 5, 0, {1: 6}, Hostile()]
        for thing in wrong:
            self.assert_no_flow([(0, -5), thing])
            self.assert_no_flow([thing, (1, 6)])
            self.assert_no_flow([(0, -5), thing, (9, 6)])
        for thing in other_things():
            for flow in ((thing, 6), (1, thing), (thing, thing), (1, 6, thing)):
                self.assert_no_flow([(0, -5), flow])
                self.assert_no_flow([(0, -5), flow, (9, 6)])
            for flow in ((thing, -6), (0, thing)):
                self.assert_no_flow([flow, (9, 6)])

    def test_truths(self):
        for flows in ([(False, -5), (1, 6)], [(0, -5), (True, 6)], [(0, -5), (1, True)]):
            self.assert_no_flow(flows)

    def test_months(self):
        for flows in ([(0, -5), (0, 6)], [(5, -5), (5, 6)], [(5, -5), (4, 6)], [(0, -5), (3, 6), (3, 7)],
                      [(0, -5), (3, 6), (2, 7)], [(0, -5), (0, -4), (2, 7)], [(3, -5), (1, -4), (5, 7)],
                      [(-1, -5), (1, 6)], [(-2, -5), (-1, 6)], [(0, -5), (361, 6)], [(361, -5), (362, 6)],
                      [(0, -5), (10 ** 20, 6)], [(-10 ** 20, -5), (1, 6)]):
            self.assert_no_flow(flows)
        for flows in ([(0, -5), (360, 5)], [(359, -5), (360, 5)], [(0, -5), (1, 5)]):
            self.assertEqual(cost(flows), 0)

    def test_amounts(self):
        for flows in ([(0, 0), (1, 6)], [(0, -5), (1, 0)], [(0, -5), (1, 0), (2, 6)], [(0, -MOST - 1), (1, 6)],
                      [(0, -5), (1, MOST + 1)], [(0, -5), (1, -MOST - 1), (2, 6)], [(0, -5), (1, MOST + 1), (2, 6)],
                      [(0, -10 ** 40), (1, 10 ** 40)]):
            self.assert_no_flow(flows)
        self.assertEqual(cost([(0, -MOST), (1, MOST)]), 0)
        self.assertEqual(cost([(0, -1), (1, 1)]), 0)

    def test_which_go_out_and_which_come_in(self):
        for amounts in ((-5, -6), (5, 6), (5, -6), (-5, -6, -7), (5, 6, 7), (6, -5, 7), (-5, 6, -7), (-5, 6, -1, 7),
                        (5, -6, -7), (-5, -6, 7, -8), (1, -5, -5, 90), (-5, 9, 9, -1, 9)):
            self.assert_no_flow(list(enumerate(amounts)))
        for amounts in ((-5, 6), (-5, -6, 7), (-5, 6, 7), (-5, -6, 7, 8)):
            flows = list(enumerate(amounts))
            self.assertEqual(cost(flows), cost_by_words(flows))

    def test_what_is_refused_stays(self):
        for flows in ([(0, -5), (0, 6)], [(0, 5), (1, -6)], [(3, -5), [4, 6]], [(5, -5), (4, 6)], []):
            kept = list(flows)
            self.assert_no_flow(flows)
            self.assertEqual(flows, kept)


if __name__ == "__main__":
    unittest.main()
