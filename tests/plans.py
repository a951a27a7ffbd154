"""Plans to try, and what their orders make of amounts, found by trying all orders with Python's own fractions."""

from fractions import Fraction
from itertools import combinations
from random import Random

from tests.helpers import clause_value, exact, follows_by_squaring, orders_by_trying, pair_of

ADD = ((1, 1), (5, 1), None, None)
LESS = ((1, 1), (-3, 1), None, None)
HALF = ((1, 2), (0, 1), None, None)
DOUBLE = ((2, 1), (0, 1), None, None)
OFF = ((9, 10), (0, 1), None, None)
CAP = ((1, 1), (0, 1), None, (20, 1))
FLOOR = ((1, 1), (0, 1), (0, 1), None)
BAND = ((1, 1), (0, 1), (-4, 1), (15, 2))
CUT = ((1, 1), (-5, 1), (0, 1), None)
FEE = ((11, 10), (1, 2), None, (30, 1))
FOUR = ((0, 1), (4, 1), None, None)
SAME = ((1, 1), (0, 1), None, None)
HUGE = ((10 ** 12 - 1, 10 ** 6), (-(10 ** 12) + 1, 999983), None, (10 ** 12, 999983))
TINY = ((1, 10 ** 6), (1, 999983), (-(10 ** 12), 10 ** 6 - 1), None)
POOL = (ADD, LESS, HALF, DOUBLE, OFF, CAP, FLOOR, BAND, CUT, FEE)

SALE = ((("cut", CUT, True), ("off", OFF, True)), ())
ADDS = ((("a", ((1, 1), (1, 1), None, None), True), ("b", ((1, 1), (2, 1), None, None), True)), ())
# Behind a cap of 5 and a floor of 10 in an open order only 5 and 10 arrive; both others follow the two.
# Between 5 and 10 they would be told apart, but at 5 and at 10 they do the same in both orders.
FIVE_OR_TEN = (
    (("bent", ((2, 1), (-5, 1), None, (10, 1)), True), ("cap", ((1, 1), (0, 1), None, (5, 1)), True),
     ("double", ((2, 1), (-10, 1), (5, 1), None), True), ("floor", ((1, 1), (0, 1), (10, 1), None), True)),
    (("cap", "bent"), ("cap", "double"), ("floor", "bent"), ("floor", "double")),
)


# All amounts are sure although the clauses do not commute: because of what arrives, of what is seen, of both.
ARRIVING = (
    (("base", ((1, 1), (0, 1), (10, 1), None), True), ("less", ((1, 1), (-5, 1), None, None), True),
     ("zero", FLOOR, True)),
    (("base", "less"), ("base", "zero")),
)
SEEN = (
    (("add", ADD, True), ("cap", ((1, 1), (0, 1), None, (30, 1)), True), ("top", CAP, True)),
    (("add", "top"), ("cap", "top")),
)
HIDDEN = (
    (("base", ((1, 1), (0, 1), (10, 1), None), True), ("cap", ((1, 1), (0, 1), None, (50, 1)), True),
     ("less", ((1, 1), (-5, 1), None, None), True), ("top", CAP, True), ("zero", FLOOR, True)),
    (("base", "less"), ("base", "zero"), ("cap", "top"), ("less", "top"), ("zero", "top")),
)

# The sure amounts are a single point, two of them, and intervals with and without an end.
POINTS = ((("fee", FEE, True), ("less", CUT, True)), ())
PART_AND_POINT = ((("a", CUT, True), ("b", CAP, True), ("c", DOUBLE, True)), (("a", "b"),))
PEAK = (
    (("cut", CUT, True), ("double", DOUBLE, True), ("top", ((1, 1), (0, 1), None, (5, 1)), True)),
    (("cut", "top"), ("double", "top")),
)
FROM_ON = ((("a", OFF, True), ("b", ((1, 1), (5, 1), None, (0, 1)), True)), ())


def plan_of(clauses, pairs=(), off=()):
    """The plan of a dict from names to clauses."""
    return (tuple((name, clauses[name], name not in off) for name in sorted(clauses)), tuple(sorted(pairs)))


def random_clause(random):
    if random.random() < 0.6:
        return random.choice(POOL)
    if random.random() < 0.1:
        return FOUR
    factor = Fraction(random.randint(1, 9), random.randint(2, 5))
    plus = Fraction(random.randint(-9, 9), random.randint(1, 2))
    low = Fraction(random.randint(-12, 6), random.randint(1, 3)) if random.random() < 0.4 else None
    high = Fraction(random.randint(7, 30), random.randint(1, 3)) if random.random() < 0.4 else None
    if low is not None and high is not None and low >= high:
        high = None
    return tuple(None if part is None else pair_of(part) for part in (factor, plus, low, high))


def random_plan(seed, active, off=0, density=0.2):
    """A plan with so many rules; each two of them are a pair with this probability."""
    random = Random(seed)
    names = random.sample("abcdefghijkl", active + off)
    pairs = [pair for pair in combinations(names, 2) if random.random() < density]
    idle = random.sample(names, off)
    return plan_of({name: random_clause(random) for name in names}, pairs, idle)


def small_plans():
    """Plans with none to four active rules, some of them with rules that are off and ways through these."""
    plans = [
        ((), ()), plan_of({"a": ADD}), plan_of({"a": CAP}, off="a"), plan_of({"a": FOUR, "b": CAP}, off="ab"),
        SALE, ADDS, FIVE_OR_TEN, ARRIVING, SEEN, POINTS, PART_AND_POINT, PEAK, FROM_ON,
        plan_of({"a": FOUR, "b": DOUBLE}), plan_of({"a": SAME, "b": SAME, "c": CUT}),
        plan_of({"a": CUT, "b": OFF, "c": CAP}, (("a", "b"), ("b", "c")), "b"),
        plan_of({"a": ADD, "b": OFF, "c": CAP, "d": DOUBLE}, (("d", "b"), ("b", "a")), "b"),
        plan_of({"cap": CAP, "floor": FLOOR, "half": HALF, "less": LESS}),
        plan_of({"huge": HUGE, "tiny": TINY, "cap": CAP}),
        plan_of({"huge": HUGE, "tiny": TINY, "less": LESS}, (("huge", "tiny"),)),
    ]
    plans += [random_plan(seed, 2) for seed in range(4)]
    plans += [random_plan(seed, 3, off=seed % 3) for seed in range(10, 22)]
    plans += [random_plan(seed, 4, off=seed % 2, density=0.25) for seed in range(30, 36)]
    return plans


def five_plans():
    """Plans with five active rules."""
    return [random_plan(seed, 5, off=seed % 2, density=0.3) for seed in range(50, 54)] + [
        plan_of({"a": CAP, "b": DOUBLE, "c": ADD, "d": FLOOR, "e": OFF}, (("a", "b"), ("c", "d"))),
        plan_of({"a": ADD, "b": LESS, "c": ADD, "d": LESS, "e": SAME}), HIDDEN,
    ]


def part_of(plan, start):
    """The plan in which only the rules of the start are active."""
    return (tuple((name, clause, name in start) for name, clause, _ in plan[0]), plan[1])


def form_of(plan, order):
    """The clause of the chain, in normal form, of fractions of Python."""
    named = {name: clause for name, clause, _ in plan[0]}
    return form_of_chain([named[name] for name in order])


def form_of_chain(clauses):
    factor, plus, low, high = Fraction(1), Fraction(0), None, None
    for clause in clauses:
        times, added, least, most = (None if part is None else exact(part) for part in clause)
        if factor > 0:
            low = least if low is None else exact(clause_value(clause, pair_of(low)))
            high = most if high is None else exact(clause_value(clause, pair_of(high)))
            factor, plus = times * factor, times * plus + added
        else:
            plus = exact(clause_value(clause, pair_of(plus)))
        if low is not None and low == high:
            factor, plus = Fraction(0), low
        if factor == 0:
            low = high = None
    return (factor, plus, low, high)


def form_value(form, amount):
    factor, plus, low, high = form
    value = factor * amount + plus
    value = value if low is None else max(value, low)
    return value if high is None else min(value, high)


def forms_of(plan, start=None):
    """The distinct chains of all orders of the start's rules."""
    part = plan if start is None else part_of(plan, start)
    return sorted({form_of(plan, order) for order in orders_by_trying(part)}, key=str)


def turns_of(form):
    """The amounts at which the chain meets its bounds."""
    factor, plus, low, high = form
    return [(bound - plus) / factor for bound in (low, high) if bound is not None]


def crossings(forms):
    """The amounts, ascending, at which two straight parts of the chains cross."""
    lines = {(factor, plus) for factor, plus, _, _ in forms}
    lines |= {(Fraction(0), bound) for form in forms for bound in form[2:] if bound is not None}
    return sorted({(q - p) / (f - g) for (f, p), (g, q) in combinations(lines, 2) if f != g})


def around(amounts):
    """The ascending amounts, amounts between them, and amounts on both sides."""
    amounts = [Fraction(amount) for amount in amounts] or [Fraction(0)]
    found = amounts + [(one + other) / 2 for one, other in zip(amounts, amounts[1:])]
    return found + [amounts[0] - 1, amounts[0] - 10 ** 9, amounts[-1] + 1, amounts[-1] + 10 ** 9]


def long_plan(seed=29):
    """Twelve active rules and two hundred starts: a single rule and ways of three, four and four rules."""
    random = Random(seed)
    names = "abcdefghijkl"
    pairs = [pair for group in ("bcd", "efgh", "ijkl") for pair in zip(group, group[1:])]
    clauses = {}
    for name in names:
        factor, high = Fraction(random.randint(30, 170), 100), random.choice((None, random.randint(-50, 100)))
        clauses[name] = (pair_of(factor), (random.randint(-20, 20), 1), None, None if high is None else (high, 1))
    return plan_of(clauses, pairs)


def far_plan(seed=29):
    """As the long plan, with numerators and denominators at the limits."""
    random = Random(seed)
    rules, pairs = long_plan(seed)

    def part(least):
        return pair_of(Fraction(random.randint(least, 10 ** 12), random.randint(1, 10 ** 6)))

    clauses = {name: (part(1), part(-(10 ** 12)), None, random.choice((None, part(-(10 ** 12))))) for name, _, _ in rules}
    return plan_of(clauses, pairs)


def best_values(plan, amount, pick):
    """A dict from each start to the least or the greatest value (pick is min or max) before what follows it."""
    follows = follows_by_squaring(plan)
    active = [rule for rule in plan[0] if rule[2]]
    needs = {name: {first for first, second in follows if second == name} for name, _, _ in active}
    values = {(): amount}
    layer = [()]
    for _ in active:
        found = {}
        for start in layer:
            for name, clause, _ in active:
                if name not in start and all(first in start for first in needs[name] if first in needs):
                    longer = tuple(sorted((*start, name)))
                    value = exact(clause_value(clause, pair_of(values[start])))
                    found[longer] = pick(found.get(longer, value), value)
        values.update(found)
        layer = list(found)
    return values
