"""What several tests share: sample values, and answers found in another way than the program's."""

from fractions import Fraction
from itertools import permutations, product

BIG = 10 ** 60 - 1

# Values that are none of the kinds, whatever is asked for.
ODD_VALUES = (
    None, True, False, 0, 1, -1, BIG, -BIG, "", "a", "-", "0", "abcdefghi", (), [], (None,), [None],
    ("a",), (True,), ((),), [[]], (1, [2]), ("a", ("b", ("c", ()))), ((((((((((1,),),),),),),),),),),
)

AMOUNTS = ((-20, 1), (-7, 1), (-3, 2), (-1, 1), (-1, 3), (0, 1), (1, 2), (1, 1), (5, 2), (5, 1), (9, 1), (20, 1))

ADD = ((1, 1), (5, 1), None, None)
CAP = ((1, 1), (0, 1), None, (20, 1))
PLAN = ((("add", ADD, True), ("cap", CAP, True)), ())


def nested(depth):
    value = ()
    for _ in range(depth):
        value = (value,)
    return value


def exact(pair):
    return Fraction(pair[0], pair[1])


def pair_of(value):
    return (value.numerator, value.denominator)


def clause_value(clause, amount):
    """What the clause makes of the amount, by Python's own fractions."""
    factor, plus, low, high = clause
    value = exact(factor) * exact(amount) + exact(plus)
    if low is not None:
        value = max(value, exact(low))
    if high is not None:
        value = min(value, exact(high))
    return pair_of(value)


def chain_value(clauses, amount):
    for clause in clauses:
        amount = clause_value(clause, amount)
    return amount


def pieces_value(pieces, amount):
    """The value of the last piece that begins at or before the amount."""
    lines = [piece for piece in pieces if piece[0] is None or exact(piece[0]) <= exact(amount)]
    return pair_of(exact(lines[-1][1]) * exact(amount) + exact(lines[-1][2]))


def clause_samples():
    """Clauses in normal form: constants, identities, bounds on no side, one side and both sides."""
    bounds = [(low, high) for low in (None, (-1, 1), (3, 2)) for high in (None, (2, 1), (5, 1))]
    lines = product(((1, 3), (1, 1), (2, 1)), ((-3, 1), (0, 1), (1, 2)))
    clauses = [(factor, plus, low, high) for factor, plus in lines for low, high in bounds]
    return clauses + [((0, 1), value, None, None) for value in ((-4, 1), (0, 1), (2, 1), (7, 3))]


def named_plan(names, pairs=(), off=(), clause=ADD):
    """A plan whose rules all have the same clause."""
    rules = tuple((name, clause, name not in off) for name in sorted(names))
    return (rules, tuple(sorted(pairs)))


def follows_by_squaring(plan):
    """All pairs of the plan and the ways of them, by putting two ways together until nothing is new."""
    ways = set(plan[1])
    while True:
        longer = ways | {(a, d) for a, b in ways for c, d in ways if b == c}
        if longer == ways:
            return tuple(sorted(ways))
        ways = longer


def orders_by_trying(plan):
    """The legal orders, out of all the orders of the active names."""
    active = [name for name, _, is_on in plan[0] if is_on]
    follows = [pair for pair in follows_by_squaring(plan) if pair[0] in active and pair[1] in active]
    return [
        order for order in permutations(active)
        if all(order.index(first) < order.index(second) for first, second in follows)
    ]


def starts_by_trying(plan):
    """The sets of the first rules of the legal orders."""
    return tuple(sorted({tuple(sorted(order[:k])) for order in orders_by_trying(plan) for k in range(len(order) + 1)}))


def plan_samples():
    """Plans with none to four active rules, with ways through rules that are off."""
    names = ("a", "b", "c", "d")
    candidates = [(one, other) for one in names for other in names if one < other]
    plans = [named_plan(()), named_plan(("a",)), named_plan(("a",), off=("a",)), named_plan(("x", "y"), (("y", "x"),))]
    for number in range(2 ** len(candidates)):
        pairs = [pair for k, pair in enumerate(candidates) if number >> k & 1]
        for off in ((), ("b",), ("b", "c"), ("a",)):
            plans.append(named_plan(names, pairs, off))
            plans.append(named_plan(names, [(other, one) for one, other in pairs], off))
    return plans
