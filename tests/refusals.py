"""What the tests share: things of every wrong kind, and how a refusal is looked for."""


class Hostile:
    """A thing that can't even be compared, shown or asked for its truth."""

    def refuse(self, *others):
        raise AssertionError("a thing of another kind was looked into")

    __eq__ = __lt__ = __le__ = __gt__ = __ge__ = __bool__ = __len__ = refuse
    __int__ = __index__ = __str__ = __repr__ = __add__ = __mod__ = refuse
    __hash__ = None


def other_things():
    """Things that are no whole numbers, new ones each time."""
    return [True, False, None, "", "1", "2000", [], [1], (), (1,), (2000, 1, 1), {}, {1: 1},
            1.0, 0.5, float("nan"), float("inf"), b"1", {1}, 1j, object(), int, Hostile()]


def assert_refused(case, error, deed, *handed):
    """The refusal is of just this class, and comes again when it is asked again."""
    for _ in range(2):
        try:
            told = deed(*handed)
        except error as refusal:
            case.assertIs(type(refusal), error)
        else:
            case.fail(f"{deed.__name__} told {told!r}, not {error.__name__}")
