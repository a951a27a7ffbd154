"""Classes of clauses: each adds a part, and Python's method resolution order puts the parts in order.

The arguments of a class reach it through the classes ahead of it in that order: each takes its own
ones and hands on the others.
"""

from stackorder.clausereadings import clause_read
from stackorder.clauses import applied, chained, normal_form
from stackorder.clausetexts import clause_text
from stackorder.fractions import fraction_product


class Clause:
    IDENTITY = ((1, 1), (0, 1), None, None)

    def __init__(self):
        # The last class in the order: an argument that is left over here belongs to no class.
        pass

    def parts(self):
        return ()

    def form(self):
        parts = self.parts()
        return chained(*parts)

    def result_of(self, amount):
        return applied(self.form(), amount)

    def __eq__(self, other):
        return isinstance(other, Clause) and self.form() == other.form()

    def __str__(self):
        return str(clause_text(self.form()))


class Scaled(Clause):
    def __init__(self, *, factor=(1, 1), **more):
        super().__init__(**more)
        self.factor = factor

    def parts(self):
        return super().parts() + (normal_form(self.factor, (0, 1)),)


class Shifted(Clause):
    def __init__(self, *, plus=(0, 1), **more):
        super().__init__(**more)
        self.plus = plus

    def parts(self):
        return super().parts() + (normal_form((1, 1), self.plus),)


class Bounded(Clause):
    def __init__(self, *, low=None, high=None, **more):
        super().__init__(**more)
        self.low = low
        self.high = high

    def parts(self):
        return super().parts() + (normal_form((1, 1), (0, 1), low=self.low, high=self.high),)


class Fixed(Clause):
    def __init__(self, *, constant, **more):
        super().__init__(**more)
        self.constant = constant

    def parts(self):
        return super().parts() + (normal_form((0, 1), self.constant),)


class Percent(Scaled):
    def __init__(self, *, percent):
        super().__init__(factor=fraction_product(percent, (1, 100)))


class Floor(Bounded):
    def __init__(self, *, least):
        super().__init__(low=least)


class Cap(Bounded):
    def __init__(self, *, most):
        super().__init__(high=most)


class Claim(Bounded, Scaled, Shifted):
    """First the addition, then the multiplication, then the bounds."""


class Fee(Shifted, Scaled):
    """First the multiplication, then the addition."""


class Voucher(Bounded, Shifted):
    """First the addition, then the bounds."""


class General(Bounded, Shifted, Scaled):
    """First the multiplication, then the addition, then the bounds: any clause."""

    @classmethod
    def read(cls, text):
        factor, plus, low, high = clause_read(text)
        return cls(factor=factor, plus=plus, low=low, high=high)
