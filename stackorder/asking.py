"""Questions asked one after the other: how many of them always suffice for the outcome of an amount."""

from stackorder.orders import is_before
from stackorder.outcomes import outcomes_by_order, questions_of


class Asking:
    """What can be asked about one amount.

    What is known is the tuple of the legal orders, ascending, that agree with the answers so far.
    """

    def __init__(self, plan, amount):
        self.outcomes = outcomes_by_order(plan, amount)
        self.questions = questions_of(plan)
        # Different answers can leave the same orders, so what was found for them is kept.
        self._found = {}

    def everything(self):
        """All legal orders: nothing is answered."""
        return tuple(self.outcomes)

    def is_told(self, orders):
        """Whether all of the orders have the same outcome."""
        return len({self.outcomes[order] for order in orders}) == 1

    def branches(self, orders):
        """The rows (question, ahead, behind) for the questions of which both answers are joint with what is known.

        ahead are the orders with the question itself as the answer, behind those with the reversed answer.
        """
        rows = []
        for one, other in self.questions:
            ahead = tuple([order for order in orders if is_before(order, one, other)])
            behind = tuple([order for order in orders if is_before(order, other, one)])
            if ahead and behind:
                rows.append(((one, other), ahead, behind))
        return rows

    def needed_in(self, branch):
        """How many questions suffice behind the question of a branch, whatever is answered."""
        _, ahead, behind = branch
        return max(self.needed(ahead), self.needed(behind))

    def needed(self, orders):
        """The least number of questions that always suffices for what is known."""
        if orders not in self._found:
            if self.is_told(orders):
                self._found[orders] = 0
            else:
                self._found[orders] = 1 + self.needed_in(self.best_branch(orders))
        return self._found[orders]

    def best_branch(self, orders):
        """A branch behind which the fewest questions suffice."""
        branches = self.branches(orders)
        depths = [self.needed_in(branch) for branch in branches]
        return branches[depths.index(min(depths))]


def questions_needed(plan, amount):
    asking = Asking(plan, amount)
    return asking.needed(asking.everything())
