"""How the tests call the program, and a second way to its answers, straight from the document's words."""

from slicesale.house import answers

FAR = 1000000000000000000
TOP = 1000000000


def slices(n, reserve):
    return [0, n, reserve]


def bid(who, *offers):
    return [1, who, len(offers)] + list(offers)


def unbid(who):
    return [2, who]


def split():
    return [3]


def sum_of():
    return [4]


def pays(who):
    return [5, who]


def prices(who):
    return [6, who]


def income():
    return [7]


def take_apart(answered):
    found = []
    at = 0
    while at < len(answered):
        end = at + 1 + answered[at]
        found.append(answered[at + 1:end])
        at = end
    if at != len(answered):
        raise ValueError("the last answer is cut off")
    return found


def ask(*calls):
    """The answers to these calls, a list each."""
    line = []
    for call in calls:
        line.extend(call)
    found = take_apart(answers(line))
    if len(found) != len(calls):
        raise ValueError("not an answer for each call")
    return found


def last(*calls):
    """The answer to the last of these calls."""
    return ask(*calls)[-1]


def views(bidders=range(1, 9)):
    """Calls that together show the whole object and change nothing."""
    shown = [split(), sum_of(), income()]
    for who in bidders:
        shown.append(pays(who))
        shown.append(prices(who))
    return shown


def seen_after(*calls):
    """What all views answer behind these calls."""
    shown = views()
    return ask(*calls, *shown)[len(calls):]


class Book:
    """The document's words, told slowly: what a sale of these bids (a dict) comes to."""

    def __init__(self, n, reserve, bids):
        self.n = n
        self.reserve = reserve
        self.bids = bids

    def without(self, who):
        return Book(self.n, self.reserve, {other: row for other, row in self.bids.items() if other != who})

    def met(self):
        """Triples (amount, owner, place) with the house as owner 9, the best taken one at a time."""
        left = [(self.reserve, 9, place) for place in range(self.n)]
        for who, row in self.bids.items():
            left.extend((amount, who, place) for place, amount in enumerate(row))
        taken = []
        for round_ in range(self.n):
            best = left[0]
            for offer in left:
                if self.ahead(offer, best):
                    best = offer
            left.remove(best)
            taken.append(best)
        return taken

    @staticmethod
    def ahead(offer, other):
        if offer[0] != other[0]:
            return offer[0] > other[0]
        if offer[1] != other[1]:
            return offer[1] < other[1]
        return offer[2] < other[2]

    def split(self):
        owners = [offer[1] for offer in self.met()]
        return [owners.count(owner) for owner in (9, 1, 2, 3, 4, 5, 6, 7, 8)]

    def sum_of(self):
        """The greatest sum by trying every split, with no order at all."""
        best = {0: 0}
        for row in list(self.bids.values()) + [[self.reserve] * self.n]:
            further = {}
            for given, total in best.items():
                for got in range(min(len(row), self.n - given) + 1):
                    reached = total + sum(row[:got])
                    further[given + got] = max(reached, further.get(given + got, reached))
            best = further
        return [0, best[self.n]]

    def pays(self, who):
        if who not in self.bids:
            return [-2]
        others = sum(offer[0] for offer in self.met() if offer[1] != who)
        return [0, self.without(who).sum_of()[1] - others]

    def prices(self, who):
        if who not in self.bids:
            return [-2]
        got = self.split()[who]
        return [got] + [offer[0] for offer in self.without(who).met()[::-1][:got]]

    def income(self):
        return [0, sum(self.pays(who)[1] for who in self.bids)]

    def calls(self):
        return [slices(self.n, self.reserve)] + [bid(who, *row) for who, row in self.bids.items()]

    def seen(self):
        """What all views should answer."""
        shown = [self.split(), self.sum_of(), self.income()]
        for who in range(1, 9):
            shown.append(self.pays(who))
            shown.append(self.prices(who))
        return shown
