"""Which carried captions of a row are best kept."""

from seamfast.books import row_carried
from seamfast.errors import BadPrices
from seamfast.forms import is_integer, is_within, items_of
from seamfast.rules import length_words
from seamfast.ways import judged_row

MOST_PRICE = 100


def judged_prices(prices, many):
    """The prices of so many showings, as a tuple."""
    items = items_of(prices)
    if items is None or len(items) != many:
        raise BadPrices(-1)
    for number, price in enumerate(items):
        if not is_within(price, 0, MOST_PRICE):
            raise BadPrices(number)
    return items


class Stock:
    """The carried showings of a row, which of them are fine, and what it costs to leave them out."""

    def __init__(self, plan, book, rules, row, prices):
        self.shown = row_carried(plan, book, judged_row(plan, row))
        items = judged_prices(prices, len(self.shown))
        self.gap = rules.gap * plan.grain
        self.fine = [len(length_words(plan, rules, cue, over - begun)) == 0 for cue, begun, over in self.shown]
        # The sum of the prices ahead of each showing, and at last of all.
        self.ahead = [0]
        for price in items:
            self.ahead.append(self.ahead[-1] + price)


class Limits:
    """The greatest right entries, one after the other, where all entries ahead are told.

    Both kinds of showings that fit one are taken without looking at each of them: the one that
    ends where it begins is its neighbour, and those that are far enough ahead only become more.
    """

    def __init__(self, stock):
        self.stock = stock
        self.told = []
        # The least of what the far ones leave out, less all that is ahead of what comes behind them.
        self.far = 0
        self.far_many = 0

    def tell(self, entry):
        """Takes the entry of the next showing."""
        self.told.append(entry)

    def spared(self, number):
        """The entry of a fine showing, less the prices up to it and its own."""
        return self.told[number] - self.stock.ahead[number + 1]

    def next_limit(self):
        """The greatest right entry of the next showing, None if it is not fine."""
        stock = self.stock
        number = len(self.told)
        begun = stock.shown[number][1]
        while self.far_many < number and stock.shown[self.far_many][2] + stock.gap <= begun:
            if stock.fine[self.far_many]:
                self.far = min(self.far, self.spared(self.far_many))
            self.far_many += 1
        if not stock.fine[number]:
            return None
        spared = self.far
        if number > 0 and stock.shown[number - 1][2] == begun and stock.fine[number - 1]:
            spared = min(spared, self.spared(number - 1))
        return stock.ahead[number] + spared

    def last_limit(self):
        """The greatest right last entry."""
        numbers = [number for number, fine in enumerate(self.stock.fine) if fine]
        return self.stock.ahead[-1] + min([0] + [self.spared(number) for number in numbers])


def least_bounds(stock):
    """The bounds of the showings, and the least price of a choice at last."""
    limits = Limits(stock)
    for _ in stock.shown:
        limits.tell(limits.next_limit())
    return tuple(limits.told) + (limits.last_limit(),)


def better(pair, other):
    """The pair of a lesser price, of two as cheap the one of the lesser number; None is worse than any."""
    if pair is None or other is None:
        return other if pair is None else pair
    return min(pair, other)


def least_behind(stock):
    """For each showing, if it is kept and nothing ahead of it, the least price of a choice, and what comes next.

    What comes next is the number that the first choice of this price keeps behind it, None if it keeps no more.
    """
    many = len(stock.shown)
    prices = [0] * many
    behind = [None] * many
    far = None
    far_from = many
    for number in reversed(range(many)):
        over = stock.shown[number][2]
        while far_from > number + 1 and stock.shown[far_from - 1][1] >= over + stock.gap:
            far_from -= 1
            if stock.fine[far_from]:
                far = better((prices[far_from], far_from), far)
        found = far
        if number + 1 < many and stock.shown[number + 1][1] == over and stock.fine[number + 1]:
            found = better((prices[number + 1], number + 1), found)
        least = stock.ahead[-1]
        if found is not None and found[0] < least:
            least, behind[number] = found
        prices[number] = least - stock.ahead[number + 1] + stock.ahead[number]
    return prices, behind


def first_choice(stock):
    """The first choice of the least price."""
    prices, behind = least_behind(stock)
    found = None
    for number, price in enumerate(prices):
        if stock.fine[number]:
            found = better((price, number), found)
    if found is None or stock.ahead[-1] <= found[0]:
        return ()
    choice = []
    number = found[1]
    while number is not None:
        choice.append(number)
        number = behind[number]
    return tuple(choice)


class Thinned:
    """The best choice among the carried captions of a row, and the bounds that show it."""

    def __init__(self, plan, book, rules, row, prices):
        stock = Stock(plan, book, rules, row, prices)
        self.bounds = least_bounds(stock)
        self.price = self.bounds[-1]
        self.choice = first_choice(stock)

    def __len__(self):
        return len(self.choice)

    def __iter__(self):
        return iter(self.choice)


def judge_bounds(plan, book, rules, row, prices, table):
    """None if the bounds are right, -1 if they are no such tuple, otherwise the number of the first wrong entry."""
    stock = Stock(plan, book, rules, row, prices)
    entries = items_of(table)
    if entries is None or len(entries) != len(stock.shown) + 1:
        return -1
    limits = Limits(stock)
    for number in range(len(stock.shown)):
        limit = limits.next_limit()
        entry = entries[number]
        if limit is None and entry is not None:
            return number
        if limit is not None and (not is_integer(entry) or entry > limit):
            return number
        limits.tell(entry)
    if not is_integer(entries[-1]) or entries[-1] > limits.last_limit():
        return len(stock.shown)
    return None
