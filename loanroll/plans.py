"""Plans: what is asked of a debt by a rule, where so many days are left."""


class Plan:
    def asks(self, debt, left):
        most = max(0, debt.owed())
        if left == 1:
            return most
        return min(most, self.wishes(debt, left))

    def wishes(self, debt, left):
        return debt.interest()


class Even(Plan):
    def __init__(self, amount):
        self.amount = amount

    def wishes(self, debt, left):
        return self.amount


class Parts(Plan):
    def wishes(self, debt, left):
        # Rounded up, so that what is left to the last day is no greater than the parts ahead.
        return debt.interest() + (debt.principal() + left - 1) // left


class Steps(Plan):
    def __init__(self, sums):
        self.sums = list(sums)

    def wishes(self, debt, left):
        # The list is told from its end: the last sum is for the last day.
        if left > len(self.sums):
            return 0
        return self.sums[len(self.sums) - left]
