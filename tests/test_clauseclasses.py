import unittest
from itertools import product

from stackorder import clauseclasses
from stackorder.clauseclasses import (
    Bounded, Cap, Claim, Clause, Fee, Fixed, Floor, General, Percent, Scaled, Shifted, Voucher,
)
from stackorder.clausereadings import clause_read
from stackorder.clauses import applied, chained
from stackorder.clausetexts import clause_text
from stackorder.errors import InvalidText
from tests.helpers import AMOUNTS, ODD_VALUES, chain_value, clause_samples

IDENTITY = ((1, 1), (0, 1), None, None)
HALF, MINUS, LOW, HIGH = (1, 2), (-3, 1), (-1, 1), (10, 1)
TIMES = (HALF, (0, 1), None, None)
PLUS = ((1, 1), MINUS, None, None)
BOUNDS = ((1, 1), (0, 1), LOW, HIGH)


def constant(value):
    return ((0, 1), value, None, None)


class FixedClaim(Fixed, Claim):
    pass


class ScaledFixed(Scaled, Fixed):
    pass


class CapAndFloor(Voucher, Fee):
    pass


SAMPLES = (
    Clause(), Scaled(), Scaled(factor=HALF), Shifted(), Shifted(plus=MINUS), Bounded(), Bounded(low=LOW), Bounded(high=HIGH),
    Bounded(low=LOW, high=HIGH), Bounded(low=LOW, high=LOW), Fixed(constant=HIGH), Percent(percent=(50, 1)),
    Floor(least=LOW), Cap(most=HIGH), Claim(), Claim(factor=HALF, plus=MINUS, low=LOW, high=HIGH), Fee(),
    Fee(factor=HALF, plus=MINUS), Voucher(), Voucher(plus=MINUS, low=LOW), General(), General(factor=HALF, plus=MINUS),
    General(factor=(0, 1), plus=HIGH), General(low=LOW, high=LOW),
)


class Parts(unittest.TestCase):
    def test_one_part_each(self):
        for made, parts in (
            (Clause(), ()),
            (Scaled(factor=HALF), (TIMES,)),
            (Shifted(plus=MINUS), (PLUS,)),
            (Bounded(low=LOW, high=HIGH), (BOUNDS,)),
            (Bounded(low=LOW), (((1, 1), (0, 1), LOW, None),)),
            (Bounded(high=HIGH), (((1, 1), (0, 1), None, HIGH),)),
            (Fixed(constant=HIGH), (constant(HIGH),)),
            (Percent(percent=(50, 1)), (TIMES,)),
            (Floor(least=LOW), (((1, 1), (0, 1), LOW, None),)),
            (Cap(most=HIGH), (((1, 1), (0, 1), None, HIGH),)),
        ):
            self.assertEqual(made.parts(), parts)
            self.assertIs(type(made.parts()), tuple)

    def test_parts_in_the_order_of_resolution_base_first(self):
        self.assertEqual(Claim(plus=MINUS, low=LOW, high=HIGH, factor=HALF).parts(), (PLUS, TIMES, BOUNDS))
        self.assertEqual(Fee(plus=MINUS, factor=HALF).parts(), (TIMES, PLUS))
        self.assertEqual(Voucher(low=LOW, plus=MINUS, high=HIGH).parts(), (PLUS, BOUNDS))
        self.assertEqual(General(high=HIGH, low=LOW, plus=MINUS, factor=HALF).parts(), (TIMES, PLUS, BOUNDS))

    def test_arguments_in_any_order(self):
        arguments = [("factor", HALF), ("plus", MINUS), ("low", LOW), ("high", HIGH)]
        for turn in range(4):
            named = dict(arguments[turn:] + arguments[:turn])
            self.assertEqual(Claim(**named).parts(), (PLUS, TIMES, BOUNDS))
            self.assertEqual(General(**named).parts(), (TIMES, PLUS, BOUNDS))

    def test_defaults_are_identities_and_stay_parts(self):
        self.assertEqual([made.parts() for made in (Scaled(), Shifted(), Bounded())], [(IDENTITY,)] * 3)
        self.assertEqual([made.parts() for made in (Claim(), General())], [(IDENTITY,) * 3] * 2)
        self.assertEqual([made.parts() for made in (Fee(), Voucher())], [(IDENTITY,) * 2] * 2)
        self.assertEqual(Claim(plus=MINUS).parts(), (PLUS, IDENTITY, IDENTITY))
        self.assertEqual(Claim(factor=HALF).parts(), (IDENTITY, TIMES, IDENTITY))
        self.assertEqual(Claim(low=LOW, high=HIGH).parts(), (IDENTITY, IDENTITY, BOUNDS))
        self.assertEqual(Fee(plus=MINUS).parts(), (IDENTITY, PLUS))
        self.assertEqual(General(plus=MINUS).parts(), (IDENTITY, PLUS, IDENTITY))

    def test_parts_are_in_normal_form(self):
        self.assertEqual(Bounded(low=LOW, high=LOW).parts(), (constant(LOW),))
        self.assertEqual(Scaled(factor=(0, 1)).parts(), (constant((0, 1)),))
        self.assertEqual(Claim(plus=MINUS, factor=(0, 1), low=HIGH, high=HIGH).parts(), (PLUS, constant((0, 1)), constant(HIGH)))

    def test_further_classes(self):
        self.assertEqual(
            FixedClaim(constant=HIGH, plus=MINUS, factor=HALF, low=LOW).parts(),
            (PLUS, TIMES, ((1, 1), (0, 1), LOW, None), constant(HIGH)),
        )
        self.assertEqual(ScaledFixed(factor=HALF, constant=HIGH).parts(), (constant(HIGH), TIMES))
        self.assertEqual(CapAndFloor(factor=HALF, plus=MINUS, high=HIGH, low=LOW).parts(), (TIMES, PLUS, BOUNDS))
        self.assertEqual(ScaledFixed(factor=HALF, constant=HIGH).form(), constant((5, 1)))


class FormsAndResults(unittest.TestCase):
    def test_the_form_is_the_chain_of_the_parts(self):
        for made in SAMPLES:
            self.assertEqual(made.form(), chained(*made.parts()))

    def test_results(self):
        for made, amount in product(SAMPLES, AMOUNTS):
            self.assertEqual(made.result_of(amount), chain_value(made.parts(), amount))
            self.assertEqual(made.result_of(amount=amount), applied(made.form(), amount))

    def test_the_order_of_the_bases_matters(self):
        self.assertEqual(Claim(factor=(2, 1), plus=(5, 1)).form(), ((2, 1), (10, 1), None, None))
        self.assertEqual(General(factor=(2, 1), plus=(5, 1)).form(), ((2, 1), (5, 1), None, None))

    def test_str_is_the_written_form(self):
        for made in SAMPLES:
            self.assertEqual(str(made), clause_text(made.form()))
            self.assertIs(type(str(made)), str)
        self.assertEqual(str(Claim(plus=MINUS, factor=HALF, high=HIGH)), "1/2,-3/2,-,10")

    def test_identity(self):
        self.assertEqual(Clause.IDENTITY, IDENTITY)
        self.assertEqual(Clause().form(), Clause.IDENTITY)
        self.assertEqual(General.IDENTITY, IDENTITY)
        self.assertEqual(str(Clause()), "1,0,-,-")


class Attributes(unittest.TestCase):
    def test_given_ones(self):
        for made in (Scaled(factor=HALF), Claim(factor=HALF), Fee(factor=HALF), General(factor=HALF), Percent(percent=(50, 1))):
            self.assertEqual(made.factor, HALF)
        for made in (Shifted(plus=MINUS), Claim(plus=MINUS), Fee(plus=MINUS), Voucher(plus=MINUS), General(plus=MINUS)):
            self.assertEqual(made.plus, MINUS)
        for kind in (Bounded, Claim, Voucher, General):
            made = kind(low=LOW, high=HIGH)
            self.assertEqual((made.low, made.high), (LOW, HIGH))
        self.assertEqual(Fixed(constant=HIGH).constant, HIGH)

    def test_defaults(self):
        self.assertEqual([Scaled().factor, Shifted().plus, Bounded().low, Bounded().high], [(1, 1), (0, 1), None, None])
        made = General()
        self.assertEqual((made.factor, made.plus, made.low, made.high), IDENTITY)

    def test_percent_floor_and_cap(self):
        self.assertEqual([Percent(percent=(p, 1)).factor for p in (0, 1, 100, 250)], [(0, 1), (1, 100), (1, 1), (5, 2)])
        self.assertEqual(Percent(percent=(1, 3)).factor, (1, 300))
        self.assertEqual((Floor(least=LOW).low, Floor(least=LOW).high), (LOW, None))
        self.assertEqual((Cap(most=HIGH).low, Cap(most=HIGH).high), (None, HIGH))

    def test_arguments_by_name_only(self):
        for kind in (Scaled, Shifted, Fixed, Percent, Floor, Cap, Bounded, Claim, Fee, Voucher, General):
            with self.assertRaises(TypeError):
                kind((1, 1))

    def test_other_arguments(self):
        for kind, named in ((Clause, {"factor": HALF}), (Scaled, {"plus": MINUS}), (Fee, {"low": LOW}),
                            (Voucher, {"factor": HALF}), (Percent, {"percent": (5, 1), "factor": HALF}),
                            (Floor, {"least": LOW, "high": HIGH}), (Cap, {"most": HIGH, "low": LOW}),
                            (Percent, {}), (Floor, {}), (Cap, {}), (Fixed, {})):
            with self.assertRaises(TypeError):
                kind(**named)

    def test_bases(self):
        for kind, bases in ((Clause, (object,)), (Scaled, (Clause,)), (Shifted, (Clause,)), (Bounded, (Clause,)),
                            (Fixed, (Clause,)), (Percent, (Scaled,)), (Floor, (Bounded,)), (Cap, (Bounded,)),
                            (Claim, (Bounded, Scaled, Shifted)), (Fee, (Shifted, Scaled)), (Voucher, (Bounded, Shifted)),
                            (General, (Bounded, Shifted, Scaled))):
            self.assertEqual(kind.__bases__, bases)

    def test_methods_stand_in_their_classes(self):
        for name in ("parts", "form", "result_of", "__eq__", "__str__", "IDENTITY"):
            self.assertIn(name, vars(clauseclasses.Clause))
        self.assertIn("read", vars(General))


class Equality(unittest.TestCase):
    def test_equal_exactly_if_the_forms_are(self):
        for one, other in product(SAMPLES, repeat=2):
            same = one.form() == other.form()
            self.assertIs(one == other, same)
            self.assertIs(one != other, not same)

    def test_across_classes_and_parts(self):
        self.assertEqual(Claim(factor=(2, 1), plus=(5, 1)), Fee(factor=(2, 1), plus=(10, 1)))
        self.assertEqual(Clause(), General())
        self.assertEqual(Fixed(constant=LOW), Bounded(low=LOW, high=LOW))
        self.assertEqual(Percent(percent=(50, 1)), Scaled(factor=HALF))
        self.assertNotEqual(Scaled(factor=HALF), Scaled(factor=(1, 3)))
        self.assertNotEqual(Claim(factor=(2, 1), plus=(5, 1)), General(factor=(2, 1), plus=(5, 1)))

    def test_other_values(self):
        for made in SAMPLES:
            for value in (*ODD_VALUES, made.form(), str(made), made.parts(), [made], (made,), Clause):
                self.assertIs(made == value, False)
                self.assertIs(value == made, False)
                self.assertIs(made != value, True)

    def test_in_a_list(self):
        self.assertIs([Clause()] == [General()], True)
        self.assertIs([Clause(), 1] == [General(), True], True)
        self.assertIs([Clause()] == [IDENTITY], False)
        self.assertIs(General() in [1, "a", Clause()], True)
        self.assertIs(General(plus=LOW) in [1, "a", Clause(), IDENTITY], False)


class Read(unittest.TestCase):
    def test_valid(self):
        for clause in clause_samples():
            made = General.read(clause_text(clause))
            self.assertIs(type(made), General)
            self.assertEqual(made.form(), clause)
            self.assertEqual(str(made), clause_text(clause))
        self.assertEqual(General.read(text="2,1,-,-").parts(), (((2, 1), (0, 1), None, None), ((1, 1), (1, 1), None, None), IDENTITY))

    def test_invalid(self):
        for text in ("", "x", "1", "1,0", "1,0,-", "-1,0,-,-", "1,2/4,-,-", "0,1,1,-", "1,0,5,5", "1,0,5,3", "1,0,-,-,-", " 1,0,-,-"):
            with self.assertRaises(InvalidText) as raised:
                General.read(text)
            with self.assertRaises(InvalidText) as expected:
                clause_read(text)
            self.assertEqual(raised.exception.line, 0)
            self.assertEqual(raised.exception.field, expected.exception.field)

    def test_fields(self):
        for text, field in (("", 0), ("1", 1), ("1,0,-", 3), ("1,0,5,3", 3), ("0,0,5,-", 2), ("1,0,-,-,-", 4)):
            with self.assertRaises(InvalidText) as raised:
                General.read(text)
            self.assertEqual((raised.exception.line, raised.exception.field), (0, field))


class Examples(unittest.TestCase):
    def test_claim(self):
        claim = Claim(plus=(-3, 1), factor=(1, 2), high=(10, 1))
        self.assertEqual(
            [claim.parts()[0], claim.form(), claim.result_of((9, 1))],
            [((1, 1), (-3, 1), None, None), ((1, 2), (-3, 2), None, (10, 1)), (3, 1)],
        )

    def test_others(self):
        found = [Fee(factor=(2, 1), plus=(5, 1)).form(), str(General.read("1/2,0,-,10")), Percent(percent=(110, 1)).factor]
        self.assertEqual(found, [((2, 1), (5, 1), None, None), '1/2,0,-,10', (11, 10)])
