"""What the tests share: wrong things, refusals, entries by chance, and the document's words gone through day by day."""

import datetime

from loanroll.counts import Count
from loanroll.debts import Debt
from loanroll.entries import Due, Fee, Late, Out, Pay, Rate, Still, Turn

WORDS = ("out", "fee", "turn", "pay", "due", "rate", "late", "still")
END = 1000000
LAST = 999999


class Hostile:
    """A thing that can't even be compared, shown or asked for its truth."""

    def refuse(self, *others):
        raise AssertionError("a thing of another kind was looked into")

    __eq__ = __lt__ = __le__ = __gt__ = __ge__ = __bool__ = __len__ = refuse
    __int__ = __index__ = __str__ = __repr__ = __add__ = __mod__ = refuse
    __hash__ = None


def other_things():
    """Things that are no whole numbers, new ones each time."""
    return [True, False, None, "", "1", "2000", [], [1], (), (1,), (2000, 1, 1), {}, {1: 1},
            1.0, 0.5, float("nan"), float("inf"), b"1", {1}, 1j, object(), int, Hostile()]


def things_no_days():
    """Things that are no days, new ones each time."""
    return other_things() + [-1, -10 ** 30, END, 10 ** 30]


def lists_of_no_days():
    """Whatever is no list of one to 360 rising, unlike days, new ones each time."""
    lists = [thing for thing in other_things() if not isinstance(thing, list)]
    lists += [(30, 60), (30,), "30", {30: 60}, {30, 60}, range(30, 60), iter([30, 60]), 30, 0, -1, Hostile()]
    lists += [[], list(range(361)), list(range(1000)), [-1], [-1, 5], [END], [5, END], [10 ** 30], [5, 5],
              [5, 6, 6], [5, 5, 6], [6, 5], [5, 7, 6], [7, 5, 6], [0, 0], [LAST, LAST], [LAST, 0],
              [[5]], [5, [6]], [(5, 6)], [5, None, 7], [True, 5], [False, 5], [0, True], [5, 6, True]]
    for thing in other_things():
        lists += [[thing], [5, thing], [thing, 5], [5, thing, 9]]
    return lists


def assert_refused(case, error, deed, *handed):
    """The refusal is of just this class, and comes again when it is asked again."""
    for _ in range(2):
        try:
            told = deed(*handed)
        except error as refusal:
            case.assertIs(type(refusal), error)
        else:
            case.fail(f"{deed.__name__} told {told!r}, not {error.__name__}")


class Tally(Count):
    """A plain count that keeps how often it was asked."""

    def __init__(self):
        self.asked = 0

    def upto(self, day):
        self.asked += 1
        return Count.upto(self, day)

    def weight(self, a, b):
        self.asked += 1
        return Count.weight(self, a, b)


def some_entry(chance, word, days, first=0, size=1):
    """An entry of the word on one of so many days, with numbers so small, but for the size, that many come together."""
    day = first + chance.randrange(days)
    if word == "fee":
        return Fee(day, chance.randint(-3 * size, 3 * size))
    if word == "turn":
        return Turn(day)
    if word in ("rate", "late"):
        return (Rate if word == "rate" else Late)(day, chance.randrange(500 * size))
    if word == "still":
        return Still(day, day + 1 + chance.randrange(6))
    return {"out": Out, "pay": Pay, "due": Due}[word](day, 1 + chance.randrange(20 * size))


def some_entries(chance, many, days, words=WORDS, first=0, size=1):
    return [some_entry(chance, chance.choice(words), days, first, size) for _ in range(many)]


def some_days(chance, many, first, spread):
    return sorted(chance.sample(range(first, first + spread), many))


def some_deeds(chance, many, numbers, days=40, first=0, size=1, known=0, words=WORDS):
    """Deeds of a roll, (known, number, entry or None for a strike), each a good one, their knowns alike or rising."""
    stands = set()
    told = []
    for _ in range(many):
        known += chance.choice((0, 0, 1, 3))
        number = chance.choice(numbers)
        entry = some_entry(chance, chance.choice(words), days, first, size)
        if number in stands and chance.randrange(3) == 0:
            entry = None
        stands = stands - {number} if entry is None else stands | {number}
        told.append((known, number, entry))
    return told


def do_all(roll, deeds):
    for known, number, entry in deeds:
        if entry is None:
            roll.strike(known, number)
        else:
            roll.put(known, number, entry)
    return roll


def standing_by_words(deeds, known):
    """The numbers and their entries that stand as known on a day, by the words of [82]."""
    told = []
    for number in sorted({deed[1] for deed in deeds}):
        own = [deed[2] for deed in deeds if deed[1] == number and deed[0] <= known]
        if own and own[-1] is not None:
            told.append((number, own[-1]))
    return told


def numbered_rows(standing):
    return [(number, entry.row()) for number, entry in standing]


def rows_of(entries):
    return [entry.row() for entry in entries]


def told_by(book):
    """All that a book tells, to see whether it stays."""
    return (book.count(), book.grace(), book.entries(), rows_of(book.entries()), book.outs(), book.fees(), book.pays(),
            book.turns(), book.rates(), book.lates(), book.stills(), book.dues(), book.deed_days())


def told_by_roll(roll, numbers, knowns):
    """What a roll tells of these numbers and as known on these days, to see whether it stays."""
    told = [roll.knowns()]
    for number in numbers:
        told.append([(known, entry and entry.row()) for known, entry in roll.history(number)])
    for known in knowns:
        book = roll.book(known)
        told.append((numbered_rows(roll.standing(known)), rows_of(book.entries()), book.count().name(), book.grace(),
                     roll.owed(LAST, known)))
    return told


def date_text(day):
    return (datetime.date(2000, 1, 1) + datetime.timedelta(days=day)).isoformat()


def cents_text(cents):
    figures = str(abs(cents)).rjust(3, "0")
    return ("-" if cents < 0 else "") + figures[:-2] + "." + figures[-2:]


def entry_text(row):
    """The words of an entry's row, with blanks between."""
    words = [row[0], date_text(row[1])]
    if row[0] != "turn":
        words.append(date_text(row[2]) if row[0] == "still" else cents_text(row[2]))
    return " ".join(words)


def fallen(rows):
    """The day and the amount of each due, the day moved on one by one while it stands still."""
    still = {day for row in rows if row[0] == "still" for day in range(row[1], row[2])}
    told = []
    for row in rows:
        if row[0] == "due":
            day = row[1]
            while day in still:
                day += 1
            told.append((day, row[2]))
    return told


class DayByDay:
    """The rows of a book's entries, gone through day by day by the words of [4]."""

    def __init__(self, count, grace, rows):
        self.count = count
        self.grace = grace
        self.rows = list(rows)
        self.still = {day for row in rows if row[0] == "still" for day in range(row[1], row[2])}
        self.dues = fallen(rows)

    def amounts(self, word, day):
        return [row[2] for row in self.rows if row[:2] == (word, day)]

    def rate(self, word, day):
        """That of the latest day, and of several of one day the last told."""
        told = [(row[1], place, row[2]) for place, row in enumerate(self.rows) if row[0] == word and row[1] <= day]
        return max(told)[2] if told else 0

    def behind(self, day):
        asked = sum(amount for fell, amount in self.dues if fell <= day - self.grace)
        return max(0, asked - sum(row[2] for row in self.rows if row[0] == "pay" and row[1] <= day))

    def charge(self, principal, day):
        if day in self.still:
            return 0
        late = self.rate("late", day) * min(principal, self.behind(day))
        return self.count.weight(day, day + 1) * (self.rate("rate", day) * principal + late)

    def charges(self, principal, a, b):
        return sum(self.charge(principal, day) for day in range(a, b))

    def deeds(self, day):
        return (sum(self.amounts("out", day)), sum(self.amounts("fee", day)), int(("turn", day) in self.rows),
                sum(self.amounts("pay", day)))

    def accounts(self, last, first=0, ask=None):
        """Each day's (principal, units) from the first one on, ahead of which nothing was done.

        ask is told the day, the principal and the units, and tells what is paid then besides.
        """
        unit = self.count.unit()
        principal = units = 0
        told = []
        for day in range(first, last + 1):
            lent, fees, turned, paid = self.deeds(day)
            principal, units = capped(unit, principal + lent, units + unit * lent)
            principal, units = capped(unit, principal, units + unit * fees)
            if turned:
                principal = max(0, units // unit)
            principal, units = capped(unit, principal, units - unit * paid)
            more = ask(day, principal, units) if ask else 0
            if more:
                self.rows.append(("pay", day, more))
                principal, units = capped(unit, principal, units - unit * more)
            told.append((principal, units))
            units += self.charge(principal, day)
        return told


def capped(unit, principal, units):
    return min(principal, max(0, units // unit)), units


def asked_by_words(kind, given, principal, owed, left):
    """What a plan asks, by the words of [50]."""
    owed = max(0, owed)
    if left == 1:
        return owed
    if kind == "plain":
        return owed - principal
    if kind == "parts":
        whole, over = divmod(principal, left)
        return owed - principal + whole + (1 if over else 0)
    if kind == "even":
        wish = given
    else:
        backwards = list(reversed(given))
        wish = backwards[left - 1] if left <= len(backwards) else 0
    return wish if wish < owed else owed


def debt_of(unit, principal, units):
    """A debt that stands so; with units below 0 there is no principal."""
    debt = Debt(unit)
    if units < 0:
        debt.take(-(units // unit))
        debt.grow(units % unit)
    else:
        debt.lend(principal)
        debt.grow(units - unit * principal)
    return debt
