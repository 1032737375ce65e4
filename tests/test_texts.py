import random
import unittest

from loanroll.days import day_of
from loanroll.entries import Due, Entry, Fee, Late, Out, Pay, Rate, Still, Turn, entry_of
from loanroll.errors import NoText
from loanroll.texts import (read_cents, read_date, read_entry, read_rate, read_whole, show_cents, show_date, show_entry,
                            show_rate)
from tests.refusals import (END, LAST, WORDS, Hostile, assert_refused, cents_text, date_text, entry_text, other_things,
                            some_entry)

# Figures of other scripts: Arabic, Devanagari, wide, raised, in a ring, bold, and one half.
OTHER_FIGURES = ("\u0663", "\u0967", "\uff11", "\u00b2", "\u2460", "\U0001d7cf", "\u00bd")
KINDS = {"out": Out, "fee": Fee, "turn": Turn, "pay": Pay, "due": Due, "rate": Rate, "late": Late, "still": Still}


def things_no_texts():
    """Whatever is no text, and texts' own class and kin."""
    return [thing for thing in other_things() if not isinstance(thing, str)] + [0, 1, -5, 8825, 10 ** 30, str, ["1"],
                                                                                ("1",), b"1.00", b"2024-02-29"]


def spoilt(text):
    """The text with one sign more, one less or one other, at each place."""
    told = []
    for place in range(len(text) + 1):
        for sign in " \n\t_.,+-x/e:" + "".join(OTHER_FIGURES):
            told.append(text[:place] + sign + text[place:])
            if place < len(text):
                told.append(text[:place] + sign + text[place + 1:])
    return [other for other in told if other != text]


class Whole(unittest.TestCase):
    def test_read(self):
        for number in list(range(1200)) + [10 ** 9, 10 ** 12, 10 ** 29 - 1, 10 ** 29, 10 ** 29 + 1, 10 ** 30 - 1]:
            told = read_whole(str(number))
            self.assertEqual((told, type(told)), (number, int))

    def test_thirty_figures(self):
        for text in ("1" * 30, "9" * 30, "1" + "0" * 29, "123456789012345678901234567890"):
            self.assertEqual(read_whole(text), int(text))
        for text in ("1" * 31, "9" * 31, "1" + "0" * 30, "0" * 31, "1" * 40, "1" * 5000, "1" * 100000):
            assert_refused(self, NoText, read_whole, text)

    def test_refused(self):
        texts = ["", " ", " 1", "1 ", "1 2", "01", "00", "000", "007", "0" * 30, "+1", "+0", "-1", "-0", "-", "+",
                 "1_0", "_1", "1_", "1.0", "1.", ".1", "1,0", "1e3", "0x1", "0b1", "1L", "a", "one", "1\n", "\n1",
                 "\t1", "1\t", "\u00a01", "1\u00a0", "--1", "None", "True", "\x001", "1\x00"]
        for text in texts + list(OTHER_FIGURES) + ["1" + figure for figure in OTHER_FIGURES]:
            assert_refused(self, NoText, read_whole, text)

    def test_no_texts(self):
        for thing in things_no_texts():
            assert_refused(self, NoText, read_whole, thing)


class Cents(unittest.TestCase):
    TOLD = ((0, "0.00"), (1, "0.01"), (5, "0.05"), (10, "0.10"), (99, "0.99"), (100, "1.00"), (101, "1.01"),
            (1000, "10.00"), (1234, "12.34"), (10 ** 12, "10000000000.00"), (-1, "-0.01"), (-5, "-0.05"),
            (-10, "-0.10"), (-99, "-0.99"), (-100, "-1.00"), (-101, "-1.01"), (-1234, "-12.34"),
            (-10 ** 12, "-10000000000.00"), (10 ** 31, "1" + "0" * 29 + ".00"), (10 ** 32 - 1, "9" * 30 + ".99"),
            (1 - 10 ** 32, "-" + "9" * 30 + ".99"))

    def test_read_and_shown(self):
        for cents, text in self.TOLD:
            told = read_cents(text)
            self.assertEqual((told, type(told)), (cents, int))
            self.assertEqual(show_cents(cents), text)
            self.assertIs(type(show_cents(cents)), str)

    def test_all_small_ones(self):
        for cents in range(-1200, 1200):
            self.assertEqual((show_cents(cents), read_cents(cents_text(cents))), (cents_text(cents), cents))

    def test_many(self):
        chance = random.Random(100)
        for _ in range(500):
            cents = chance.randrange(10 ** chance.randrange(1, 33)) * chance.choice((-1, 1))
            self.assertEqual((show_cents(cents), read_cents(show_cents(cents))), (cents_text(cents), cents))

    def test_shown_however_great(self):
        # Around each number of figures, as a nought in the midst is soon lost.
        for figures in list(range(1, 130)) + [300, 1000, 4000]:
            power = 10 ** figures
            for cents in (power - 1, power, power + 1, 5 * power + 10 ** (figures // 2)):
                self.assertEqual(show_cents(cents), cents_text(cents))
                self.assertEqual(show_cents(-cents), cents_text(-cents))

    def test_shown_beyond_what_python_writes(self):
        for figures in (4299, 4300, 4301, 4302, 4303, 5000, 20000):
            self.assertEqual(show_cents(10 ** figures), "1" + "0" * (figures - 2) + ".00")
            self.assertEqual(show_cents(-10 ** figures), "-1" + "0" * (figures - 2) + ".00")
            self.assertEqual(show_cents(10 ** figures - 1), "9" * (figures - 2) + ".99")
            self.assertEqual(show_cents(10 ** figures // 9), "1" * (figures - 2) + ".11")

    def test_coins_beyond_thirty_figures_are_not_read(self):
        for text in ("1" * 31 + ".00", "-" + "1" * 31 + ".00", "0" * 31 + ".00", "9" * 5000 + ".00"):
            assert_refused(self, NoText, read_cents, text)

    def test_refused(self):
        texts = ["", "-", ".", "-.", "0", "1", "-1", "12", "-0.00", "+0.00", "+1.00", "1.5", "1.005", "1.000", "0.0",
                 "0.", ".50", ".5", "-.50", "1.", "-1.", "01.00", "00.00", "-01.00", "-00.01", "1,00", "1,000.00",
                 "--1.00", "- 1.00", "-+1.00", "+-1.00", "1.-5", "1.+5", "1. 5", "1.5 ", "1.0 0", " 1.00", "1.00 ",
                 "1 .00", "1.00\n", "\n1.00", "1.00.00", "1..00", "1.0.0", "1_0.00", "1.0_", "1.a0", "a.00", "1e2",
                 "1e2.00", "1.00-", "0x1.00", "$1.00", "1.00 EUR", "(1.00)", "1;00", "1:00"]
        texts += [f"{figure}.00" for figure in OTHER_FIGURES] + [f"1.0{figure}" for figure in OTHER_FIGURES]
        for text in texts:
            assert_refused(self, NoText, read_cents, text)

    def test_one_sign_otherwise(self):
        for text in ("12.34", "-5.00", "0.05"):
            for other in spoilt(text):
                # What is spoilt into another text of cents is read as that.
                sign = other[1:] if other.startswith("-") else other
                coins, _, rest = sign.partition(".")
                good = (coins.isascii() and coins.isdigit() and str(int(coins)) == coins and len(rest) == 2
                        and rest.isascii() and rest.isdigit())
                if good:
                    self.assertEqual(show_cents(read_cents(other)), other)
                else:
                    assert_refused(self, NoText, read_cents, other)

    def test_no_texts(self):
        for thing in things_no_texts():
            assert_refused(self, NoText, read_cents, thing)


class Rates(unittest.TestCase):
    def test_read_and_shown(self):
        for rate, text in ((0, "0.00"), (1, "0.01"), (10, "0.10"), (99, "0.99"), (100, "1.00"), (375, "3.75"),
                           (12345, "123.45"), (999999, "9999.99"), (10 ** 6, "10000.00")):
            told = read_rate(text)
            self.assertEqual((told, type(told)), (rate, int))
            self.assertEqual((show_rate(rate), type(show_rate(rate))), (text, str))

    def test_many(self):
        for rate in list(range(500)) + list(range(500, 10 ** 6, 997)):
            self.assertEqual((show_rate(rate), read_rate(cents_text(rate))), (cents_text(rate), rate))

    def test_refused(self):
        for text in ("10000.01", "10001.00", "99999.00", "9" * 30 + ".00", "-0.01", "-0.00", "-3.75", "", "3", "3.7",
                     "3.750", "03.75", "3,75", "+3.75", " 3.75", "3.75 ", "3.75\n", "375", ".75", "3.",
                     "1" * 31 + ".00"):
            assert_refused(self, NoText, read_rate, text)
        for figure in OTHER_FIGURES:
            assert_refused(self, NoText, read_rate, figure + ".75")

    def test_no_texts(self):
        for thing in things_no_texts():
            assert_refused(self, NoText, read_rate, thing)


class Dates(unittest.TestCase):
    def test_read_and_shown(self):
        for day, text in ((0, "2000-01-01"), (30, "2000-01-31"), (59, "2000-02-29"), (60, "2000-03-01"),
                          (365, "2000-12-31"), (366, "2001-01-01"), (8825, "2024-02-29"), (8826, "2024-03-01"),
                          (day_of(2023, 2, 28), "2023-02-28"), (day_of(2100, 2, 28), "2100-02-28"),
                          (day_of(2400, 2, 29), "2400-02-29"), (999998, "4737-11-26"), (LAST, "4737-11-27")):
            told = read_date(text)
            self.assertEqual((told, type(told)), (day, int))
            self.assertEqual((show_date(day), type(show_date(day))), (text, str))

    def test_many(self):
        for day in list(range(1500)) + list(range(1500, LAST, 991)) + list(range(LAST - 400, LAST + 1)):
            self.assertEqual((show_date(day), read_date(date_text(day))), (date_text(day), day))

    def test_no_dates(self):
        for text in ("2023-02-29", "2100-02-29", "2024-02-30", "2024-04-31", "2024-01-32", "2024-01-00", "2024-00-01",
                     "2024-13-01", "2024-00-00", "0000-00-00", "0000-01-01", "1999-12-31", "0024-02-29", "4737-11-28",
                     "4737-12-01", "4738-01-01", "9999-12-31", "9999-99-99"):
            assert_refused(self, NoText, read_date, text)

    def test_refused(self):
        for text in ("", "-", "--", "2024-2-29", "2024-02-9", "2024-2-9", "24-02-29", "02024-02-29", "2024-002-29",
                     "2024-02-029", "2024/02/29", "2024.02.29", "20240229", "2024-0229", "202402-29", "2024 02 29",
                     "2024--2-29", "2024-02--9", "-024-02-29", "+024-02-29", "2024-+2-29", "2024-02-+9", "2024- 2-29",
                     "2024-02- 9", " 024-02-29", "202 -02-29", "2024-02-2 ", "2024-02-29 ", " 2024-02-29",
                     "2024-02-29\n", "2024-02-2\n", "2_24-02-29", "20_4-02-29", "2024-0_-29", "2024-02-2x",
                     "x024-02-29", "29-02-2024", "2024-Feb-29", "2024-02-29T00", "2024-02", "2024", "8825",
                     "2024-02-29-01", "-2024-02-29", "2024\u201302\u201329", "today"):
            assert_refused(self, NoText, read_date, text)

    def test_one_sign_otherwise(self):
        for other in spoilt("2024-02-29"):
            assert_refused(self, NoText, read_date, other)

    def test_no_texts(self):
        for thing in things_no_texts() + [(2024, 2, 29), ["2024", "02", "29"], ["2024-02-29"]]:
            assert_refused(self, NoText, read_date, thing)


ENTRIES = (("out", 0, 1, "out 2000-01-01 0.01"), ("out", 8825, 10 ** 12, "out 2024-02-29 10000000000.00"),
           ("pay", 8825, 1234, "pay 2024-02-29 12.34"), ("fee", 8826, -500, "fee 2024-03-01 -5.00"),
           ("fee", 8826, 0, "fee 2024-03-01 0.00"), ("fee", 8826, 5, "fee 2024-03-01 0.05"),
           ("fee", 1, -10 ** 12, "fee 2000-01-02 -10000000000.00"),
           ("fee", 1, 10 ** 12, "fee 2000-01-02 10000000000.00"),
           ("turn", 8856, "turn 2024-03-31"), ("turn", LAST, "turn 4737-11-27"), ("turn", 0, "turn 2000-01-01"),
           ("due", 8825, 50000, "due 2024-02-29 500.00"), ("rate", 8766, 375, "rate 2024-01-01 3.75"),
           ("rate", 8766, 0, "rate 2024-01-01 0.00"), ("rate", 8766, 10 ** 6, "rate 2024-01-01 10000.00"),
           ("late", 8766, 800, "late 2024-01-01 8.00"), ("late", LAST, 10 ** 6, "late 4737-11-27 10000.00"),
           ("still", 8857, 8887, "still 2024-04-01 2024-05-01"), ("still", 0, LAST, "still 2000-01-01 4737-11-27"),
           ("still", 8825, 8826, "still 2024-02-29 2024-03-01"))


class Entries(unittest.TestCase):
    def test_read_and_shown(self):
        for told in ENTRIES:
            row, text = told[:-1], told[-1]
            entry = read_entry(text.split(" "))
            self.assertIs(type(entry), KINDS[row[0]])
            self.assertEqual(entry.row(), row)
            self.assertEqual((show_entry(entry), show_entry(entry_of(row))), (text, text))
            self.assertIs(type(show_entry(entry)), str)

    def test_many(self):
        chance = random.Random(101)
        for _ in range(400):
            for word in WORDS:
                entry = some_entry(chance, word, LAST - 10, 0, chance.choice((1, 100, 2000)))
                row = entry.row()
                self.assertEqual(show_entry(entry), entry_text(row))
                self.assertEqual(read_entry(entry_text(row).split(" ")).row(), row)

    def test_shown_whatever_the_amount(self):
        for entry, text in ((Pay(0, 0), "pay 2000-01-01 0.00"), (Out(0, -5), "out 2000-01-01 -0.05"),
                            (Due(0, 10 ** 40), "due 2000-01-01 1" + "0" * 38 + ".00"),
                            (Rate(0, 10 ** 7), "rate 2000-01-01 100000.00"),
                            (Still(9, 9), "still 2000-01-10 2000-01-10")):
            self.assertEqual(show_entry(entry), text)

    def test_no_list_of_two_or_three_texts(self):
        good = ["pay", "2024-02-29", "12.34"]
        things = [thing for thing in other_things() if not isinstance(thing, list)]
        things += [tuple(good), ("turn", "2024-03-31"), " ".join(good), "turn 2024-03-31", "pay", dict.fromkeys(good),
                   set(good), iter(good), Pay(3, 5), Hostile(), 3]
        things += [[], ["pay"], ["turn"], ["turn 2024-03-31"], good + ["1"], good + [""], good * 2, ["", ""],
                   ["", "", ""]]
        for thing in things:
            assert_refused(self, NoText, read_entry, thing)

    def test_a_thing_that_is_no_text_among_them(self):
        for thing in things_no_texts():
            for words in ([thing, "2024-02-29", "12.34"], ["pay", thing, "12.34"], ["pay", "2024-02-29", thing],
                          [thing, "2024-03-31"], ["turn", thing], [thing, thing], [thing, thing, thing],
                          ["turn", "2024-03-31", thing], ["rate", "2024-03-31", thing], ["still", "2024-03-31", thing]):
                assert_refused(self, NoText, read_entry, words)

    def test_no_word(self):
        for word in ("", " ", "Pay", "PAY", "pay ", " pay", "pays", "paid", "entry", "ok", "loan", "put", "12.34", "\n",
                     "2024-02-29"):
            for rest in (["2024-02-29"], ["2024-02-29", "12.34"], ["2024-02-29", "2024-03-29"]):
                assert_refused(self, NoText, read_entry, [word] + rest)

    def test_a_wrong_number_of_words(self):
        for word in WORDS:
            if word == "turn":
                for third in ("12.34", "0.00", "2024-03-31", "2024-04-30", "3", "", "turn"):
                    assert_refused(self, NoText, read_entry, ["turn", "2024-03-31", third])
            else:
                assert_refused(self, NoText, read_entry, [word, "2024-03-31"])
            for third in ("12.34", "2024-04-30"):
                assert_refused(self, NoText, read_entry, [word, "2024-03-31", third, third])
                assert_refused(self, NoText, read_entry, [word])

    def test_no_date(self):
        thirds = {"turn": [], "still": ["4737-11-27"]}
        for word in WORDS:
            for text in ("2023-02-29", "2024-2-29", "1999-12-31", "4737-11-28", "", "12.34", "8825", "2024-02-29 "):
                assert_refused(self, NoText, read_entry, [word, text] + thirds.get(word, ["3.00"]))

    def test_no_third(self):
        for word in ("out", "fee", "pay", "due", "rate", "late"):
            for text in ("", "12", "12.3", "12.345", "01.00", "-0.00", "1,00", " 1.00", "2024-02-29", "x",
                         "1" * 31 + ".00"):
                assert_refused(self, NoText, read_entry, [word, "2024-02-29", text])
        for text in ("", "12.34", "2024-02-30", "2024-3-1", "4737-11-28", "x"):
            assert_refused(self, NoText, read_entry, ["still", "2024-02-29", text])

    def test_no_good_amount(self):
        for word in ("out", "pay", "due"):
            for text in ("0.00", "-0.01", "-1.00", "10000000000.01", "9" * 30 + ".99"):
                assert_refused(self, NoText, read_entry, [word, "2024-02-29", text])
        for text in ("10000000000.01", "-10000000000.01", "9" * 30 + ".99"):
            assert_refused(self, NoText, read_entry, ["fee", "2024-02-29", text])

    def test_no_good_rate(self):
        for word in ("rate", "late"):
            for text in ("10000.01", "-0.01", "-3.75", "9" * 30 + ".99"):
                assert_refused(self, NoText, read_entry, [word, "2024-02-29", text])

    def test_no_good_until(self):
        for text in ("2024-02-29", "2024-02-28", "2000-01-01"):
            assert_refused(self, NoText, read_entry, ["still", "2024-02-29", text])
        assert_refused(self, NoText, read_entry, ["still", "4737-11-27", "4737-11-27"])
        assert_refused(self, NoText, read_entry, ["still", "4737-11-27", "4737-11-28"])

    def test_the_words_stay(self):
        for told in ENTRIES:
            words = told[-1].split(" ")
            kept = list(words)
            entry = read_entry(words)
            self.assertEqual(words, kept)
            words.clear()
            self.assertEqual(entry.row(), told[:-1])
            show_entry(entry)
            self.assertEqual(entry.row(), told[:-1])

    def test_a_new_entry_each_time(self):
        words = ["pay", "2024-02-29", "12.34"]
        self.assertIsNot(read_entry(words), read_entry(words))
        self.assertIsInstance(read_entry(words), Entry)

    def test_what_ends_behind_the_last_day_is_not_read(self):
        assert_refused(self, NoText, read_entry, ["still", "2024-02-29", "1000000"])
        self.assertEqual(entry_of(("still", 8825, END)).until, END)


if __name__ == "__main__":
    unittest.main()
