"""Which lot of marks mends a plan for a wish."""

from seamfast.errors import BadLot
from seamfast.forms import is_integer, items_of
from seamfast.marks import fit_lots, judged_marks, lot_price, plan_under_lot


class Mends:
    """The least fit lot that mends the plan, and what bars each fit lot ahead of it."""

    def __init__(self, plan, wish, marks):
        kept = judged_marks(plan, marks)
        self.lot = None
        self.price = None
        told = []
        for lot in fit_lots(plan, kept):
            answer = wish(plan_under_lot(plan, kept, lot))
            if answer is None:
                self.lot = lot
                self.price = lot_price(kept, lot)
                break
            told.append((lot, answer))
        self.barred = tuple(told)

    def answers_to(self, thing):
        """The answers told for the thing as a lot: one, or none if it is not one of the lots."""
        numbers = items_of(thing)
        if numbers is None or not all([is_integer(number) for number in numbers]):
            return []
        return [answer for lot, answer in self.barred if lot == numbers]

    def __bool__(self):
        return self.lot is not None

    def __contains__(self, x):
        return len(self.answers_to(x)) > 0

    def __getitem__(self, at):
        answers = self.answers_to(at)
        if len(answers) == 0:
            raise BadLot(at)
        return answers[0]

    def __len__(self):
        return len(self.barred)

    def __iter__(self):
        return iter(self.barred)
