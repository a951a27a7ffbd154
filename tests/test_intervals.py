import unittest
from itertools import product

from stackorder.intervals import contains, is_interval, made_of, ordered, seen_through
from stackorder.sureness import joined_parts
from tests.helpers import AMOUNTS, ODD_VALUES, clause_samples, clause_value, exact, nested

ENDS = (None, (-7, 2), (-3, 1), (-1, 3), (0, 1), (1, 2), (2, 3), (5, 1))
INTERVALS = [
    (low, high) for low, high in product(ENDS, ENDS) if low is None or high is None or exact(low) <= exact(high)
]


def has(interval, amount):
    low, high = interval
    return (low is None or exact(low) <= exact(amount)) and (high is None or exact(amount) <= exact(high))


PROBES = [*AMOUNTS, *[end for end in ENDS if end is not None], (10 ** 9, 1), (-(10 ** 9), 1)]


class Intervals(unittest.TestCase):
    def test_is_interval(self):
        for low, high in product(ENDS, ENDS):
            self.assertIs(is_interval((low, high)), (low, high) in INTERVALS)
        for value in (*ODD_VALUES, nested(30), (None, None, None), [None, None], (1, 2), ((2, 4), None), (None, (1, 0))):
            self.assertIs(is_interval(value), False)

    def test_contains(self):
        for outer, inner in product(INTERVALS, INTERVALS):
            self.assertIs(contains(outer, inner), all(has(outer, amount) for amount in PROBES if has(inner, amount)))

    def test_ordered(self):
        # No low comes before all others, no high behind all others.
        rows = sorted(INTERVALS, key=lambda row: ((row[0] is not None, row[0] and exact(row[0])),
                                                  (row[1] is None, row[1] and exact(row[1]))))
        self.assertEqual(ordered(INTERVALS), tuple(rows))
        self.assertEqual(ordered(INTERVALS[::-1] + INTERVALS[::3]), tuple(rows))
        self.assertEqual(ordered(INTERVALS[::-4]), tuple(row for row in rows if row in INTERVALS[::-4]))
        self.assertEqual(ordered([]), ())

    def test_made_of(self):
        for clause in clause_samples():
            for interval in INTERVALS[::3]:
                made = made_of(clause, interval)
                values = [clause_value(clause, amount) for amount in PROBES if has(interval, amount)]
                self.assertTrue(all(has(made, value) for value in values))
                # The far probes are behind all bounds, so an end that is there is reached.
                self.assertTrue(all(end in values for end in made if end is not None))

    def test_seen_through(self):
        # Two amounts look alike behind the clause exactly if they are alike within the interval before it.
        for clause in clause_samples():
            for interval in INTERVALS[::4]:
                seen = seen_through(clause, interval)
                values = [clause_value(((1, 1), (0, 1), *interval), clause_value(clause, amount)) for amount in PROBES]
                bounded = [None if seen is None else clause_value(((1, 1), (0, 1), *seen), amount) for amount in PROBES]
                if seen is None:
                    self.assertEqual(len(set(values)), 1)
                else:
                    for (one, before), (other, behind) in product(zip(bounded, values), zip(bounded, values)):
                        self.assertIs(one == other, before == behind)


class Parts(unittest.TestCase):
    def test_parts_that_touch_are_joined(self):
        parts = [(None, (1, 1)), ((1, 1), (2, 1)), ((2, 1), (2, 1)), ((3, 1), (3, 1)), ((4, 1), (5, 1)), ((5, 1), (5, 1)), ((6, 1), None)]
        self.assertEqual(joined_parts(parts), ((None, (2, 1)), ((3, 1), (3, 1)), ((4, 1), (5, 1)), ((6, 1), None)))
        self.assertEqual([joined_parts([]), joined_parts([(None, None)])], [(), ((None, None),)])
