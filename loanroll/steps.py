"""Tables by days: a value holds from its day on, up to the next row's day."""


def table_of(pairs):
    # In a dict the last value of a day stays, and no two rows have one day, so values are never compared.
    return sorted(dict(pairs).items())


def begun(rows, day):
    # Halved each time, as charges ask this once for each of their stretches.
    low = 0
    high = len(rows)
    while low < high:
        middle = (low + high) // 2
        if rows[middle][0] <= day:
            low = middle + 1
        else:
            high = middle
    return low


def value_at(table, day):
    many = begun(table, day)
    if many == 0:
        return 0
    return table[many - 1][1]
