"""What the tests share: things of every wrong kind, how a refusal is looked for, entries by chance, and their dues."""

from loanroll.entries import Due, Fee, Late, Out, Pay, Rate, Still, Turn

WORDS = ("out", "fee", "turn", "pay", "due", "rate", "late", "still")


class Hostile:
    """A thing that can't even be compared, shown or asked for its truth."""

    def refuse(self, *others):
        raise AssertionError("a thing of another kind was looked into")

    __eq__ = __lt__ = __le__ = __gt__ = __ge__ = __bool__ = __len__ = refuse
    __int__ = __index__ = __str__ = __repr__ = __add__ = __mod__ = refuse
    __hash__ = None


def other_things():
    """Things that are no whole numbers, new ones each time."""
    return [True, False, None, "", "1", "2000", [], [1], (), (1,), (2000, 1, 1), {}, {1: 1},
            1.0, 0.5, float("nan"), float("inf"), b"1", {1}, 1j, object(), int, Hostile()]


def assert_refused(case, error, deed, *handed):
    """The refusal is of just this class, and comes again when it is asked again."""
    for _ in range(2):
        try:
            told = deed(*handed)
        except error as refusal:
            case.assertIs(type(refusal), error)
        else:
            case.fail(f"{deed.__name__} told {told!r}, not {error.__name__}")


def some_entry(chance, word, days):
    """An entry of the word on one of the first so many days, with small numbers so that many come together."""
    day = chance.randrange(days)
    if word == "fee":
        return Fee(day, chance.randint(-3, 3))
    if word == "turn":
        return Turn(day)
    if word in ("rate", "late"):
        return (Rate if word == "rate" else Late)(day, chance.randrange(500))
    if word == "still":
        return Still(day, day + 1 + chance.randrange(6))
    return {"out": Out, "pay": Pay, "due": Due}[word](day, 1 + chance.randrange(20))


def some_entries(chance, many, days, words=WORDS):
    return [some_entry(chance, chance.choice(words), days) for _ in range(many)]


def fallen(rows):
    """The day and the amount of each due, the day moved on one by one while it stands still."""
    still = {day for row in rows if row[0] == "still" for day in range(row[1], row[2])}
    told = []
    for row in rows:
        if row[0] == "due":
            day = row[1]
            while day in still:
                day += 1
            told.append((day, row[2]))
    return told
