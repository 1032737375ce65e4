"""Costs: what was lent and paid, month by month, and what it costs a month."""

from loanroll.entries import is_within, summed
from loanroll.errors import NoFlow
from loanroll.months import months_between

# Growth is told in millionths a month; at the most all doubles each month.
MILLION = 1000000
MOST_MONTH = 360
MOST_FLOW = 1000000000000000


def flows_of(book):
    moves = book.pays() + [(row[0], -row[1]) for row in book.outs()]
    first = min([row[0] for row in moves], default=0)
    sums = summed([(months_between(first, row[0]), row[1]) for row in moves])
    return [row for row in sums if row[1] != 0]


def power(base, many):
    # By squares, as a book's months may lie thousands apart.
    told = 1
    square = base
    rest = many
    while rest > 0:
        if rest % 2 == 1:
            told = told * square
        square = square * square
        rest = rest // 2
    return told


def worth(flows, a):
    total = 0
    scale = 1
    month = 0
    # All that came ahead grows from month to month: no amount needs a great power of its own.
    for flow in flows:
        gap = flow[0] - month
        scale = scale * power(MILLION, gap)
        total = total * power(MILLION + a, gap) + flow[1] * scale
        month = flow[0]
    return total


def is_flow(thing):
    if not isinstance(thing, tuple) or len(thing) != 2:
        return False
    return is_within(thing[0], 0, MOST_MONTH) and is_within(thing[1], -MOST_FLOW, MOST_FLOW) and thing[1] != 0


def are_flows(things):
    if not isinstance(things, list) or not 2 <= len(things) <= MOST_MONTH + 1:
        return False
    # All are looked at first: other things are not compared.
    if not all([is_flow(thing) for thing in things]):
        return False
    months = [flow[0] for flow in things]
    comes_in = [flow[1] > 0 for flow in things]
    # Sorted, what goes out stands ahead of what comes in.
    in_order = months == sorted(set(months)) and comes_in == sorted(comes_in)
    return in_order and comes_in[-1] and not comes_in[0]


def cost(flows):
    if not are_flows(flows):
        raise NoFlow("flows are 2 to 361 tuples (month, amount), all that go out ahead of all that come in")
    if worth(flows, 0) < 0:
        return None
    low = 0
    high = MILLION
    while low < high:
        # Rounded up, so that the middle is above the low one, at which it is not below 0.
        middle = (low + high + 1) // 2
        if worth(flows, middle) < 0:
            high = middle - 1
        else:
            low = middle
    return low
