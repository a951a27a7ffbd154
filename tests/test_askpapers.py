from random import Random

from stackorder.amounttables import amount_table
from stackorder.askchecker import lets_ask, lets_deny
from stackorder.asking import questions_needed
from stackorder.askpapers import ask_paper, deny_paper
from stackorder.outcomes import questions_of
from tests.helpers import ODD_VALUES, exact, nested, pair_of
from tests.papers import (
    PaperCase, are_joint, ask_depth, ask_error, ask_nodes, changed, deny_error, deny_nodes, needed_by_trying, orders_of_plan,
    outcomes_of_plan, part_at, places_of, put_at, spoiled, with_answers,
)
from tests.plans import ADDS, BAND, CAP, CUT, DOUBLE, FOUR, LESS, OFF, SALE, SAME, plan_of, small_plans
from tests.test_asking import FREE_PLANS, OUTSIDE
from tests.test_outcomes import PLAN

AMOUNTS = ((-7, 2), (5, 1), (20, 1))
FIVE = (5, 1)
CAP_DBL, CAP_TEN, DBL_TEN = ("cap", "dbl"), ("cap", "ten"), ("dbl", "ten")
THROUGH = plan_of({"a": CUT, "b": FOUR, "c": OFF, "d": CAP, "e": DOUBLE}, (("a", "b"), ("b", "c")), "b")
SALE_LIKE = plan_of({"a": CUT, "b": OFF})
ORDERS = ("cap", "dbl", "ten"), ("dbl", "ten", "cap")


def told(plan, amount, *answers):
    return ("told", amount_table(with_answers(plan, answers), amount))


def asked(plan, amount, *questions, answers=()):
    """An ask paper that asks these questions in this order, also those that are decided."""
    if not questions:
        return told(plan, amount, *answers)
    first, *rest = questions
    branches = [answers + (answer,) for answer in (first, first[::-1])]
    return ("ask", first, *[asked(plan, amount, *rest, answers=way) if are_joint(plan, way) else None for way in branches])


def ways_to_nodes(paper, way=()):
    """The way of indexes to each node, in preorder."""
    if paper is not None:
        yield way
        if paper[0] == "ask":
            yield from ways_to_nodes(paper[2], way + (2,))
            yield from ways_to_nodes(paper[3], way + (3,))


def ways_to_deny_nodes(node, size, way=()):
    yield way
    if size > 0:
        for k, (_, below) in enumerate(node):
            yield from ways_to_deny_nodes(below, size - 1, way + (k, 1))


class AskCase(PaperCase):
    def assertAsk(self, plan, amount, paper, word, at):
        self.assertEqual(ask_error(plan, amount, paper), (word, at))
        self.assertRefused(word, at, lets_ask, plan, amount, paper)

    def assertAccepted(self, plan, amount, paper, depth):
        self.assertIsNone(ask_error(plan, amount, paper))
        self.assertEqual(ask_depth(paper), depth)
        self.assertEqual(lets_ask(plan, amount, paper), depth)


class AskPapers(AskCase):
    def test_accepted_with_the_least_depth(self):
        for plan in small_plans() + FREE_PLANS[::3] + [OUTSIDE, THROUGH]:
            for amount in AMOUNTS:
                paper = ask_paper(plan, amount)
                self.assertAccepted(plan, amount, paper, needed_by_trying(plan, amount))

    def test_one_outcome(self):
        for plan in (((), ()), ADDS, plan_of({"a": CUT}), plan_of({"a": CUT, "b": OFF}, off="ab"),
                     plan_of({"a": CUT, "b": OFF, "x": FOUR}, (("a", "x"), ("x", "b")), "x")):
            for amount in AMOUNTS:
                paper = ask_paper(plan, amount)
                self.assertEqual(paper[0], "told")
                self.assertAccepted(plan, amount, paper, 0)
        self.assertEqual(ask_paper(((), ()), (7, 2)), ("told", (((), (7, 2), (7, 2)),)))

    def test_other_depths(self):
        # Each question after each other one, decided or not.
        for questions in ((CAP_DBL, CAP_TEN, DBL_TEN), (DBL_TEN, CAP_DBL, CAP_TEN), (CAP_TEN, DBL_TEN, CAP_DBL)):
            self.assertAccepted(PLAN, FIVE, asked(PLAN, FIVE, *questions), 3)
        self.assertAccepted(ADDS, FIVE, asked(ADDS, FIVE, ("a", "b")), 1)

    def test_a_question_that_is_decided_may_be_asked(self):
        for questions in ((("a", "b"), ("a", "b")), (("a", "b"),) * 5, (("a", "b"),) * 9):
            paper = asked(SALE_LIKE, (100, 1), *questions)
            self.assertAccepted(SALE_LIKE, (100, 1), paper, len(questions))
        # Decided by two other answers together.
        paper = asked(PLAN, FIVE, CAP_DBL, DBL_TEN, CAP_TEN, CAP_TEN)
        self.assertIsNone(paper[2][2][3])
        self.assertAccepted(PLAN, FIVE, paper, 4)

    def test_told_later_than_needed(self):
        for plan, amount in ((PLAN, FIVE), (SALE, (100, 1)), (THROUGH, (20, 1))):
            paper = ask_paper(plan, amount)
            for way, (node, answers) in zip(ways_to_nodes(paper), ask_nodes(paper)):
                if node[0] == "told":
                    for question in questions_of(plan):
                        later = put_at(paper, way, asked(plan, amount, question, answers=answers))
                        self.assertAccepted(plan, amount, later, ask_depth(later))

    def test_example(self):
        self.assertEqual(lets_ask(PLAN, FIVE, ask_paper(PLAN, FIVE)), 2)
        paper = ("ask", DBL_TEN, asked(PLAN, FIVE, CAP_TEN, answers=(DBL_TEN,)),
                 asked(PLAN, FIVE, CAP_DBL, answers=(DBL_TEN[::-1],)))
        self.assertAccepted(PLAN, FIVE, paper, 2)

    def test_by_name(self):
        paper = ask_paper(amount=FIVE, plan=PLAN)
        self.assertEqual(lets_ask(thing=paper, amount=FIVE, plan=PLAN), 2)


class AskErrors(AskCase):
    def test_shape(self):
        paper = ask_paper(PLAN, FIVE)
        table = paper[2][2][1]
        for thing in (*ODD_VALUES, nested(30), None, (), ("told",), ("told", table, ()), ["told", table], ("tell", table),
                      ("ask", table),
                      ("told", None), ("told", list(table)), ("told", table + (None,)), ("ask", *paper[1:3]), (*paper, None),
                      list(paper),
                      ("told", *paper[1:]), ("Ask", *paper[1:]), (None, *paper[1:]), (("ask",), *paper[1:])):
            self.assertAsk(PLAN, FIVE, thing, "shape", -1)
            if thing is not None:
                self.assertAsk(PLAN, FIVE, changed(paper, 2, thing), "shape", -1)
                self.assertAsk(PLAN, FIVE, changed(paper, 3, changed(paper[3], 3, thing)), "shape", -1)
        for pair in (None, "ab", ["cap", "dbl"], ("cap",), ("cap", "dbl", "ten"), ("Cap", "dbl"), ("cap", 1), ((), ()),
                     (True, "cap")):
            self.assertAsk(PLAN, FIVE, changed(paper, 1, pair), "shape", -1)
            self.assertAsk(PLAN, FIVE, changed(paper, 2, changed(paper[2], 1, pair)), "shape", -1)

    def test_none_in_place_of_the_first_node(self):
        for plan in (((), ()), PLAN, SALE):
            self.assertAsk(plan, FIVE, None, "shape", -1)

    def test_tables_of_another_shape(self):
        paper = ask_paper(PLAN, FIVE)
        start, low, high = paper[2][2][1][1]
        for row in ((start, low), (start, low, high, high), [start, low, high], (start, None, high), (start, (2, 4), high),
                    (start, low, (1, 0)), (start, low, (True, 1)), (list(start), low, high), ("cap", low, high),
                    (("A",), low, high)):
            self.assertAsk(PLAN, FIVE, put_at(paper, (2, 2, 1, 1), row), "shape", -1)

    def test_ways_of_ten_and_of_eleven_nodes(self):
        question = ("a", "b")
        for amount in ((100, 1), (1, 1)):
            self.assertAccepted(SALE_LIKE, amount, asked(SALE_LIKE, amount, *[question] * 9), 9)
            self.assertAsk(SALE_LIKE, amount, asked(SALE_LIKE, amount, *[question] * 10), "shape", -1)
        # None is no node: ten nodes that ask are no longer way than nine of them and one that tells.
        paper = ("ask", question, None, None)
        for _ in range(9):
            paper = ("ask", question, paper, None)
        self.assertAsk(SALE_LIKE, FIVE, paper, "none", 0)
        self.assertAsk(SALE_LIKE, FIVE, ("ask", question, paper, None), "shape", -1)
        # A long way is found behind each answer, and it comes before all other errors.
        for k in (2, 3):
            long = put_at(("ask", ("z", "z"), None, None), (k,), asked(SALE_LIKE, FIVE, *[question] * 9))
            self.assertAsk(SALE_LIKE, FIVE, long, "shape", -1)
            short = put_at(("ask", ("z", "z"), None, None), (k,), asked(SALE_LIKE, FIVE, *[question] * 8))
            self.assertAsk(SALE_LIKE, FIVE, short, "question", 0)

    def test_questions_that_are_none_of_the_plan(self):
        for plan, amount in ((PLAN, FIVE), (THROUGH, (20, 1)), (OUTSIDE, (20, 1))):
            paper = ask_paper(plan, amount)
            for i, way in enumerate(ways_to_nodes(paper)):
                node = part_at(paper, way)
                if node[0] == "ask":
                    others = [node[1][::-1], (node[1][0], node[1][0]), ("zzz", "zzz"), ("a", "zzz"), ("x", "y")]
                    for question in others:
                        self.assertAsk(plan, amount, put_at(paper, way + (1,), question), "question", i)
        for question in (("a", "c"), ("a", "b"), ("b", "c"), ("b", "d")):
            self.assertAsk(THROUGH, FIVE, ("ask", question, None, None), "question", 0)
        self.assertAsk((PLAN[0], (("dbl", "cap"),)), FIVE, asked(PLAN, FIVE, CAP_DBL), "question", 0)

    def test_none_in_place_of_a_node(self):
        for plan, amount in ((PLAN, FIVE), (OUTSIDE, (20, 1))):
            paper = ask_paper(plan, amount)
            for i, way in enumerate(ways_to_nodes(paper)):
                if part_at(paper, way)[0] == "ask":
                    for k in (2, 3):
                        self.assertAsk(plan, amount, put_at(paper, way + (k,), None), "none", i)
                    self.assertAsk(plan, amount, put_at(put_at(paper, way + (2,), None), way + (3,), None), "none", i)

    def test_a_node_in_place_of_none(self):
        paper = asked(PLAN, FIVE, CAP_DBL, DBL_TEN, CAP_TEN)
        numbers = [i for i, (node, _) in enumerate(ask_nodes(paper)) if None in node]
        self.assertEqual(len(numbers), 2)
        places = [way + (k,) for way in ways_to_nodes(paper) for k in (2, 3)
                  if part_at(paper, way)[0] == "ask" and part_at(paper, way + (k,)) is None]
        self.assertEqual(sorted(way[-1] for way in places), [2, 3])
        for i, way in zip(numbers, places):
            for node in (told(PLAN, FIVE), told(PLAN, FIVE, CAP_DBL), ("told", ()), asked(PLAN, FIVE, CAP_DBL),
                         ("ask", ("z", "z"), None, None)):
                self.assertAsk(PLAN, FIVE, put_at(paper, way, node), "none", i)
        # Exchanged, both places are wrong; the nodes below come later.
        for i, way in zip(numbers, places):
            node = part_at(paper, way[:-1])
            self.assertAsk(PLAN, FIVE, put_at(paper, way[:-1], (*node[:2], node[3], node[2])), "none", i)

    def test_both_places_before_the_nodes_below(self):
        bad = ("ask", ("z", "z"), None, None)
        self.assertAsk(PLAN, FIVE, ("ask", CAP_DBL, bad, None), "none", 0)
        self.assertAsk(PLAN, FIVE, ("ask", CAP_DBL, None, bad), "none", 0)
        self.assertAsk(PLAN, FIVE, ("ask", CAP_DBL, bad, bad), "question", 1)
        self.assertAsk(PLAN, FIVE, ("ask", CAP_DBL, asked(PLAN, FIVE, DBL_TEN, CAP_TEN, answers=(CAP_DBL,)), bad), "question", 7)

    def test_told_too_early(self):
        for plan, amount in ((PLAN, FIVE), (SALE, (100, 1)), (OUTSIDE, (20, 1))):
            paper = ask_paper(plan, amount)
            nodes = list(ask_nodes(paper))
            for i, way in enumerate(ways_to_nodes(paper)):
                node, answers = nodes[i]
                if node[0] == "ask":
                    early = told(plan, amount, *answers)
                    self.assertAsk(plan, amount, put_at(paper, way, early), "open", i)
                    # With an end that is closed by force, some low or some high does not hold.
                    start, low, high = max(early[1], key=lambda row: len(row[0]))
                    j = early[1].index((start, low, high))
                    for row, word in (((start, high, high), "low"), ((start, low, low), "high")):
                        forced = put_at(paper, way, put_at(early, (1, j), row))
                        self.assertAsk(plan, amount, forced, word, (i, j))

    def test_told_with_each_fault(self):
        for plan, amount in ((PLAN, FIVE), (THROUGH, (20, 1))):
            paper = ask_paper(plan, amount)
            words = set()
            for i, way in enumerate(ways_to_nodes(paper)):
                node = part_at(paper, way)
                if node[0] == "told":
                    table = node[1]
                    tables = [(), table[::-1], table[1:], table + table[-1:], amount_table(plan, amount)]
                    for other in tables:
                        self.assertAsk(plan, amount, put_at(paper, way + (1,), other), "starts", i)
                    for j, (start, low, high) in enumerate(table):
                        for row in ((start, pair_of(exact(low) + 1), high), (start, low, pair_of(exact(high) - 1)),
                                    (start, pair_of(exact(low) - 1), high), (start, low, pair_of(exact(high) + 1))):
                            given = put_at(paper, way + (1, j), row)
                            error = ask_error(plan, amount, given)
                            words.add(self.assertLike(error, ask_depth(given), lets_ask, plan, amount, given))
                            if error is not None:
                                self.assertEqual(error[1] if error[0] == "open" else error[1][0], i)
            self.assertLessEqual({"low", "high", "open"}, words)

    def test_lows_that_are_less_and_highs_that_are_greater(self):
        plan = plan_of({"band": BAND, "four": FOUR, "less": LESS}, (("less", "four"),))
        paper = ask_paper(plan, FIVE)
        accepted = 0
        for way in ways_to_nodes(paper):
            if part_at(paper, way)[0] == "told":
                for j, (start, low, high) in enumerate(part_at(paper, way)[1][1:], 1):
                    given = put_at(paper, way + (1, j), (start, pair_of(exact(low) - 1), pair_of(exact(high) + 1)))
                    error = ask_error(plan, FIVE, given)
                    accepted += self.assertLike(error, ask_depth(given), lets_ask, plan, FIVE, given) is None
        self.assertGreater(accepted, 0)

    def test_papers_for_another_plan_or_amount(self):
        paper = ask_paper(PLAN, FIVE)
        self.assertAsk(PLAN, (6, 1), paper, *ask_error(PLAN, (6, 1), paper))
        for plan in (SALE, ((), ()), (PLAN[0], (DBL_TEN,)), plan_of({"cap": CAP, "dbl": LESS, "ten": SAME})):
            error = ask_error(plan, FIVE, paper)
            self.assertIsNotNone(error)
            self.assertAsk(plan, FIVE, paper, *error)

    def test_random_changes(self):
        random = Random(47)
        words = {}
        papers = [(plan, amount, ask_paper(plan, amount)) for plan in small_plans()[4:24:2] + [OUTSIDE,
                                                                                               THROUGH] for amount in AMOUNTS]
        papers += [(PLAN, FIVE, asked(PLAN, FIVE, *questions)) for questions in ((CAP_DBL, DBL_TEN, CAP_TEN), (CAP_TEN, CAP_TEN))]
        for plan, amount, paper in papers:
            for _ in range(60):
                given = spoiled(random, paper, ODD_VALUES + (paper, told(plan, amount)))
                error = ask_error(plan, amount, given)
                depth = ask_depth(given) if error is None else None
                word = self.assertLike(error, depth, lets_ask, plan, amount, given)
                words[word] = words.get(word, 0) + 1
        self.assertEqual(set(words), {None, "shape", "question", "none", "starts", "low", "high", "open"})


class DenyCase(PaperCase):
    def assertDeny(self, plan, amount, size, paper, word, at):
        self.assertEqual(deny_error(plan, amount, size, paper), (word, at))
        self.assertRefused(word, at, lets_deny, plan, amount, size, paper)

    def assertAccepted(self, plan, amount, size, paper):
        self.assertIsNone(deny_error(plan, amount, size, paper))
        self.assertIs(lets_deny(plan, amount, size, paper), True)


class DenyPapers(DenyCase):
    def test_for_each_size(self):
        sizes = set()
        for plan in small_plans() + FREE_PLANS[::3] + [OUTSIDE, THROUGH]:
            for amount in AMOUNTS:
                needed = needed_by_trying(plan, amount)
                sizes.add(needed)
                for size in range(needed):
                    self.assertAccepted(plan, amount, size, deny_paper(plan, amount, size))
                for size in (needed, needed + 1, needed + 2, 10, 10 ** 60 - 1):
                    self.assertIsNone(deny_paper(plan, amount, size))
        self.assertLessEqual({0, 1, 2, 3, 4}, sizes)

    def test_five_questions_are_needed(self):
        plan = plan_of({"a": ((2, 1), (1, 1), None, None), "b": ((3, 1), (1, 1), None, None), "c": ((5, 1), (1, 1), None, None),
                        "d": ((11, 1), (1, 1), None, None)})
        paper = deny_paper(plan, (1, 1), 4)
        self.assertAccepted(plan, (1, 1), 4, paper)
        self.assertIsNone(deny_paper(plan, (1, 1), 5))

    def test_no_paper_is_accepted_for_a_size_that_is_enough(self):
        for plan, amount in ((PLAN, FIVE), (SALE, (100, 1)), (OUTSIDE, (20, 1)), (ADDS, FIVE)):
            needed = questions_needed(plan, amount)
            papers = [deny_paper(plan, amount, size) for size in range(needed)] + [(), ((),), ORDERS]
            for size in (needed, needed + 1, 10 ** 60 - 1):
                for paper in papers:
                    error = deny_error(plan, amount, size, paper)
                    self.assertIsNotNone(error)
                    self.assertDeny(plan, amount, size, paper, *error)

    def test_any_pair_with_different_outcomes(self):
        for one in orders_of_plan(PLAN):
            for other in orders_of_plan(PLAN):
                outcomes = outcomes_of_plan(PLAN, FIVE)
                if outcomes[one] != outcomes[other]:
                    self.assertAccepted(PLAN, FIVE, 0, (one, other))
                else:
                    self.assertDeny(PLAN, FIVE, 0, (one, other), "same", 0)

    def test_both_answers_may_stand(self):
        accepted = 0
        paper = deny_paper(PLAN, FIVE, 1)
        outcomes = outcomes_of_plan(PLAN, FIVE)
        for k, (answer, _) in enumerate(paper):
            for given in (answer, answer[::-1]):
                orders = [order for order in orders_of_plan(PLAN) if order.index(given[0]) < order.index(given[1])]
                pairs = [(one, other) for one in orders for other in orders if outcomes[one] != outcomes[other]]
                for pair in pairs:
                    accepted += 1
                    self.assertAccepted(PLAN, FIVE, 1, changed(paper, k, (given, pair)))
        self.assertGreater(accepted, 6)

    def test_example(self):
        self.assertIs(lets_deny(PLAN, FIVE, 0, ORDERS), True)
        self.assertIs(deny_paper(PLAN, FIVE, 2) is None, True)

    def test_by_name(self):
        paper = deny_paper(size=1, amount=FIVE, plan=PLAN)
        self.assertIs(lets_deny(thing=paper, size=1, amount=FIVE, plan=PLAN), True)
        self.assertIsNone(deny_paper(plan=PLAN, amount=FIVE, size=7))


class DenyErrors(DenyCase):
    def test_shape(self):
        for size in (0, 1):
            paper = deny_paper(PLAN, FIVE, size)
            for thing in ODD_VALUES + (nested(30), list(paper), None):
                if size == 0 or thing != ():
                    self.assertDeny(PLAN, FIVE, size, thing, "shape", -1)
        one, other = ORDERS
        for pair in ((one,), (one, other, one), [one, other], (one, None), (list(one), other), (one, "cap"), (one, ("Cap",)),
                     (one, (1,))):
            self.assertDeny(PLAN, FIVE, 0, pair, "shape", -1)
            paper = deny_paper(PLAN, FIVE, 1)
            self.assertDeny(PLAN, FIVE, 1, changed(paper, 1, (paper[1][0], pair)), "shape", -1)
        answer, node = paper[1]
        for row in (None, (), (answer,), (answer, node, node), [answer, node], (None, node), (list(answer), node),
                    (answer[:1], node),
                    (("A", "b"), node), (answer + ("ten",), node), (node, answer), ("ab", node)):
            self.assertDeny(PLAN, FIVE, 1, changed(paper, 1, row), "shape", -1)

    def test_papers_for_another_size(self):
        for plan, amount in ((PLAN, FIVE), (OUTSIDE, (20, 1))):
            needed = questions_needed(plan, amount)
            for size in range(needed):
                paper = deny_paper(plan, amount, size)
                for other in (*range(6), 10 ** 60 - 1):
                    if other != size:
                        self.assertDeny(plan, amount, other, paper, "shape", -1)

    def test_answers(self):
        for plan, amount, size in ((PLAN, FIVE, 1), (OUTSIDE, (20, 1), 2)):
            paper = deny_paper(plan, amount, size)
            for i, way in enumerate(ways_to_deny_nodes(paper, size)):
                node = part_at(paper, way)
                if len(way) // 2 < size:
                    swapped = changed(changed(node, 0, node[1]), 1, node[0])
                    for given in ((), node[1:], node[:-1], node + node[-1:], node[:1] + node, node[::-1], swapped,
                                  changed(node, 0, (("zzz", "a"), node[0][1])),
                                  changed(node, 0, ((node[0][0][0],) * 2, node[0][1])),
                                  changed(node, 1, (node[0][0], node[1][1])), node + ((("a", "zzz"), node[0][1]),)):
                        self.assertDeny(plan, amount, size, put_at(paper, way, given), "answers", i)

    def test_answers_at_all(self):
        for plan in (((), ()), plan_of({"a": CUT}), plan_of({"a": CUT, "b": OFF}, (("a", "b"),))):
            for size in (1, 2, 10 ** 60 - 1):
                self.assertDeny(plan, FIVE, size, (), "answers", 0)
        for size in (1, 2, 3):
            self.assertDeny(PLAN, FIVE, size, (), "answers", 0)
        # All questions are decided, so a node with no answers is not enough.
        pair = (("cut", "off"), ("cut", "off"))
        self.assertDeny(SALE, (100, 1), 2, ((("cut", "off"), ()),), "answers", 1)
        self.assertDeny(SALE, (100, 1), 2, ((("cut", "off"), ((("cut", "off"), pair),)),), "answers", 1)

    def test_questions_that_are_decided_by_other_answers(self):
        # After cap, dbl and dbl, ten, nothing is open.
        paper = tuple((answer, tuple((other, ORDERS) for other in (CAP_DBL, CAP_TEN, DBL_TEN) if other != answer))
                      for answer in (CAP_DBL, CAP_TEN, DBL_TEN))
        self.assertDeny(PLAN, FIVE, 2, paper, *deny_error(PLAN, FIVE, 2, paper))
        whole = tuple((answer, tuple((other, ORDERS) for other in (CAP_DBL, CAP_TEN, DBL_TEN))) for answer in (CAP_DBL, CAP_TEN,
                                                                                                               DBL_TEN))
        self.assertDeny(PLAN, FIVE, 2, whole, "answers", 1)

    def test_orders(self):
        for plan, amount, size in ((PLAN, FIVE, 0), (PLAN, FIVE, 1), (OUTSIDE, (20, 1), 1), (OUTSIDE, (20, 1), 2)):
            paper = deny_paper(plan, amount, size)
            nodes = list(deny_nodes(paper, size))
            legal = set(orders_of_plan(plan))
            contradicted = 0
            for i, way in enumerate(ways_to_deny_nodes(paper, size)):
                node, left, answers = nodes[i]
                if left == 0:
                    names = node[0]
                    others = [(), names[1:], names + names[-1:], names[:-1] + names[:1], names[:-1] + ("zzz",)]
                    others += [order for order in legal if any(order.index(one) > order.index(other) for one, other in answers)]
                    contradicted += len(others) - 5
                    for order in others:
                        for k in (0, 1):
                            self.assertDeny(plan, amount, size, put_at(paper, way + (k,), order), "orders", i)
                        self.assertDeny(plan, amount, size, put_at(paper, way, (order, order)), "orders", i)
            self.assertEqual(contradicted > 0, size > 0)

    def test_orders_that_are_not_legal(self):
        plan = (PLAN[0], (("dbl", "cap"),))
        self.assertAccepted(plan, (9, 1), 0, (("dbl", "cap", "ten"), ("dbl", "ten", "cap")))
        self.assertDeny(plan, (9, 1), 0, (("cap", "dbl", "ten"), ("dbl", "ten", "cap")), "orders", 0)
        self.assertDeny(plan, (9, 1), 0, (("dbl", "ten", "cap"), ("ten", "cap", "dbl")), "orders", 0)

    def test_equal_outcomes(self):
        for plan, amount, size in ((PLAN, FIVE, 0), (PLAN, FIVE, 1), (OUTSIDE, (20, 1), 2)):
            paper = deny_paper(plan, amount, size)
            nodes = list(deny_nodes(paper, size))
            for i, way in enumerate(ways_to_deny_nodes(paper, size)):
                node, left, _ = nodes[i]
                if left == 0:
                    for order in node:
                        self.assertDeny(plan, amount, size, put_at(paper, way, (order, order)), "same", i)
        self.assertDeny(SALE, FIVE, 0, (("cut", "off"), ("off", "cut")), "same", 0)

    def test_the_first_of_several_errors(self):
        paper = deny_paper(PLAN, FIVE, 1)
        bad = [("same", (paper[0][1][0],) * 2), ("orders", ((), ()))]
        for word, pair in bad:
            for _, later in bad:
                given = changed(changed(paper, 0, (paper[0][0], pair)), 2, (paper[2][0], later))
                self.assertDeny(PLAN, FIVE, 1, given, word, 1)
                self.assertDeny(PLAN, FIVE, 1, given[::-1], "answers", 0)
                self.assertDeny(PLAN, FIVE, 1, changed(given, 1, None), "shape", -1)

    def test_random_changes(self):
        random = Random(48)
        words = {}
        for plan in small_plans()[4:24:2] + [OUTSIDE, THROUGH, PLAN]:
            for amount in AMOUNTS:
                for size in range(min(questions_needed(plan, amount), 3)):
                    paper = deny_paper(plan, amount, size)
                    if len(list(places_of(paper))) < 2000:
                        for _ in range(40):
                            given = spoiled(random, paper, ODD_VALUES + (paper,))
                            error = deny_error(plan, amount, size, given)
                            word = self.assertLike(error, True, lets_deny, plan, amount, size, given)
                            words[word] = words.get(word, 0) + 1
        self.assertEqual(set(words), {None, "shape", "answers", "orders", "same"})
