"""Steps to try, and a book kept in another way than the program's."""

from stackorder.kinds import is_clause, is_fraction, is_name
from tests.helpers import BIG, ODD_VALUES, exact, nested, pair_of
from tests.papers import is_row, orders_of_plan, outcomes_of_plan, questions_by_trying
from tests.plans import ADD, BAND, CAP, CUT, DOUBLE, FOUR, HALF, OFF

WIDE = ((BIG, BIG - 1), (-BIG, BIG - 1), (-BIG, 1), (BIG, BIG - 1))

# Each form of a step with its line.
LINES = (
    (("add", "cap", ((1, 1), (0, 1), None, (50, 1))), "add cap 1,0,-,50"),
    (("add", "abcdefgh", ((1, 2), (-7, 3), (0, 1), (5, 2))), "add abcdefgh 1/2,-7/3,0,5/2"),
    (("add", "four", FOUR), "add four 0,4,-,-"),
    (("add", "add", ((9, 10), (0, 1), (-1, 2), None)), "add add 9/10,0,-1/2,-"),
    (("add", "wide", WIDE), f"add wide {BIG}/{BIG - 1},-{BIG}/{BIG - 1},-{BIG},{BIG}/{BIG - 1}"),
    (("drop", "a"), "drop a"),
    (("drop", "drop"), "drop drop"),
    (("switch", "a", True), "switch a on"),
    (("switch", "off", False), "switch off off"),
    (("before", "a", "b"), "before a b"),
    (("before", "b", "b"), "before b b"),
    (("unbefore", "tax", "cap"), "unbefore tax cap"),
    (("amount", (0, 1)), "amount 0"),
    (("amount", (-10, 1)), "amount -10"),
    (("amount", (-1, 3)), "amount -1/3"),
    (("amount", (BIG, BIG - 1)), f"amount {BIG}/{BIG - 1}"),
    (("amount", (-BIG, 1)), f"amount -{BIG}"),
)

# Values that are no steps.
NO_STEPS = (
    *ODD_VALUES, nested(30), "add", "drop a", ("add",), ("drop",), ("switch", "a"), ("before", "a"), ("amount",), ("sub", "a"),
    ("add", "a"), ("add", "a", ADD, True), ("add", "A", ADD), ("add", "", ADD), ("add", "abcdefghi", ADD), ("add", 1, ADD),
    ("add", None, ADD),
    ("add", "a", None), ("add", "a", "1,5,-,-"), ("add", "a", list(ADD)), ("add", "a", ((2, 2), (5, 1), None, None)),
    ("add", "a", ((-1, 1), (5, 1), None, None)), ("add", "a", ((1, 1), (5, 1), (3, 1), (3, 1))),
    ("add", "a", ((0, 1), (5, 1), (3, 1), None)),
    ("add", "a", ((1, 1), (5, True), None, None)), ["add", "a", ADD], ("Add", "a", ADD), ("add ", "a", ADD), (True, "a", ADD),
    (None, "a"),
    ("drop", "a", "b"), ("drop", "A"), ("drop", ("a",)), ("drop", None), ["drop", "a"], ("drop", ["a"]),
    ("switch", "a", 1), ("switch", "a", 0), ("switch", "a", None), ("switch", "a", "on"), ("switch", "A", True),
    ("switch", "a", True, True),
    ("switch", True, "a"), ("before", "a", "b", "c"), ("before", "a", None), ("before", "A", "b"), ("before", ("a", "b")),
    ("before", "a", "B"),
    ("unbefore", "a"), ("unbefore", "a", 1), ("unbefore", "a", "b", "b"), ("amount", 1), ("amount", (2, 4)), ("amount", (1, 0)),
    ("amount", (True, 1)), ("amount", (1, True)), ("amount", (0, -1)), ("amount", "1"), ("amount", [1, 1]),
    ("amount", (1, 1), (1, 1)),
    ("amount", None), (("amount", (1, 1)),), (("add",), "a", ADD), ([], "a"),
)

# Not more of them: all orders of the active rules are tried.
NAMES = ("a", "b", "c", "d", "x")
CLAUSES = (ADD, BAND, CAP, CUT, DOUBLE, FOUR, HALF, OFF)


def is_step_by_form(thing):
    """Whether the value is a step, told from its length and its parts."""
    if not isinstance(thing, tuple) or not thing or thing[0] not in ("add", "drop", "switch", "before", "unbefore", "amount"):
        return False
    if thing[0] == "add":
        return is_row(thing, 3) and is_name(thing[1]) and is_clause(thing[2])
    if thing[0] == "switch":
        return is_row(thing, 3) and is_name(thing[1]) and (thing[2] is True or thing[2] is False)
    if thing[0] == "amount":
        return is_row(thing, 2) and is_fraction(thing[1])
    return len(thing) == (2 if thing[0] == "drop" else 3) and all(is_name(name) for name in thing[1:])


class Model:
    """A book as dicts: what is known after each step is found again from the log."""

    def __init__(self, steps=()):
        self.rules, self.pairs, self.amount, self.log = {}, [], (0, 1), []
        for step in steps:
            assert self.bar(step) is None, step
            self.do(step)

    def follows(self, first, second):
        return any(one == first and (other == second or self.follows(other, second)) for one, other in self.pairs)

    def bar(self, step):
        if not is_step_by_form(step):
            return "shape"
        word, name = step[:2]
        if word == "add":
            return "name" if name in self.rules else "full" if len(self.rules) == 12 else None
        if word in ("drop", "switch") and name not in self.rules:
            return "name"
        if word == "switch":
            return "same" if self.rules[name][1] is step[2] else None
        if word == "before":
            reasons = [("name", not {name, step[2]} <= set(self.rules)), ("same", name == step[2]),
                       ("pair", step[1:] in self.pairs)]
            reasons.append(("circle", self.follows(step[2], name)))
            return ([reason for reason, holds in reasons if holds] + [None])[0]
        return "pair" if word == "unbefore" and step[1:] not in self.pairs else None

    def do(self, step):
        word, name = step[:2]
        if word == "add":
            self.rules[name] = (step[2], True)
        elif word == "drop":
            del self.rules[name]
            self.pairs = [pair for pair in self.pairs if name not in pair]
        elif word == "switch":
            self.rules[name] = (self.rules[name][0], step[2])
        elif word == "before":
            self.pairs.append(step[1:])
        elif word == "unbefore":
            self.pairs.remove(step[1:])
        else:
            self.amount = name
        self.log.append(step)

    def plan(self):
        return (tuple((name, *self.rules[name]) for name in sorted(self.rules)), tuple(sorted(self.pairs)))

    def spread(self):
        outcomes = [exact(value) for value in outcomes_of_plan(self.plan(), self.amount).values()]
        return (pair_of(min(outcomes)), pair_of(max(outcomes)))

    def orders(self):
        return list(orders_of_plan(self.plan()))

    def open_questions(self):
        return questions_by_trying(self.plan())


def random_step(random, model):
    """A step, barred or not, now and then a value that is none."""
    name, other = random.choice(NAMES), random.choice(NAMES)
    clause = random.choice(CLAUSES)
    word = random.choice(("add", "add", "add", "drop", "switch", "before", "before", "before", "unbefore", "amount", "none"))
    if word == "none":
        return random.choice(NO_STEPS)
    if word == "unbefore" and model.pairs and random.random() < 0.7:
        return ("unbefore", *random.choice(model.pairs))
    return {
        "add": ("add", name, clause), "drop": ("drop", name), "switch": ("switch", name, random.random() < 0.5),
        "before": ("before", name, other), "unbefore": ("unbefore", name, other),
        "amount": ("amount", random.choice(((0, 1), (5, 1), (-7, 2), (20, 1), (40, 3)))),
    }[word]
