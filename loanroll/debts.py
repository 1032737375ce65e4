"""A debt: its principal in cents, and all that is owed in units of a cent."""


class Debt:
    def __init__(self, unit):
        self.cent_units = unit
        self.principal_cents = 0
        self.owed_units = 0

    def principal(self):
        return self.principal_cents

    def units(self):
        return self.owed_units

    def owed(self):
        return self.owed_units // self.cent_units

    def interest(self):
        return max(0, self.owed()) - self.principal_cents

    def credit(self):
        return max(0, -self.owed())

    def rest(self):
        return self.owed_units - self.cent_units * self.owed()

    def lend(self, amount):
        self.principal_cents = self.principal_cents + amount
        self.add_cents(amount)

    def fee(self, amount):
        self.add_cents(amount)

    def turn(self):
        self.principal_cents = max(0, self.owed())

    def take(self, amount):
        self.add_cents(-amount)

    def grow(self, units):
        self.owed_units = self.owed_units + units

    def copy(self):
        other = Debt(self.cent_units)
        other.principal_cents = self.principal_cents
        other.owed_units = self.owed_units
        return other

    def add_cents(self, amount):
        self.owed_units = self.owed_units + self.cent_units * amount
        # No more principal than is owed: what is taken beyond the interest lowers it, and a credit eats what is lent.
        self.principal_cents = min(self.principal_cents, max(0, self.owed()))
