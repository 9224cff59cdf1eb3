"""How the tests call the program, and a second way to its answers, straight from the document's words."""

from slicesale.house import answers

FAR = 1000000000000000000
TOP = 1000000000


def slices(n, reserve):
    return [0, n, reserve]


def bid(who, *offers):
    return [1, who, len(offers)] + list(offers)


def unbid(who):
    return [2, who]


def split():
    return [3]


def sum_of():
    return [4]


def pays(who):
    return [5, who]


def prices(who):
    return [6, who]


def income():
    return [7]


def told(who):
    return [8, who]


def one():
    return [9]


def between():
    return [10]


def shows(p, nine):
    return [11, p, len(nine)] + list(nine)


def wanted(who, p):
    return [12, who, p]


def gain(who, truth):
    return [13, who, len(truth)] + list(truth)


def ifbid(who, row, truth):
    return [14, who, len(row)] + list(row) + [len(truth)] + list(truth)


def offers():
    return [15]


def take_apart(answered):
    found = []
    at = 0
    while at < len(answered):
        end = at + 1 + answered[at]
        found.append(answered[at + 1:end])
        at = end
    if at != len(answered):
        raise ValueError("the last answer is cut off")
    return found


def ask(*calls):
    """The answers to these calls, a list each."""
    line = []
    for call in calls:
        line.extend(call)
    found = take_apart(answers(line))
    if len(found) != len(calls):
        raise ValueError("not an answer for each call")
    return found


def last(*calls):
    """The answer to the last of these calls."""
    return ask(*calls)[-1]


def views(bidders=range(1, 9)):
    """Calls that together show the whole object and change nothing."""
    shown = [offers(), split(), sum_of(), income(), one(), between()]
    for who in bidders:
        shown.append(pays(who))
        shown.append(prices(who))
        shown.append(told(who))
    return shown


def seen_after(*calls):
    """What all views answer behind these calls."""
    shown = views()
    return ask(*calls, *shown)[len(calls):]


class Book:
    """The document's words, told slowly: what a sale of these bids (a dict) comes to."""

    def __init__(self, n, reserve, bids):
        self.n = n
        self.reserve = reserve
        self.bids = bids

    def without(self, who):
        return Book(self.n, self.reserve, {other: row for other, row in self.bids.items() if other != who})

    def with_row(self, who, row):
        return Book(self.n, self.reserve, {**self.bids, who: row})

    def everything(self):
        """Triples (amount, owner, place) with the house as owner 9."""
        found = [(self.reserve, 9, place) for place in range(self.n)]
        for who, row in self.bids.items():
            found.extend((amount, who, place) for place, amount in enumerate(row))
        return found

    def met(self):
        """The best ones, taken one at a time."""
        left = self.everything()
        taken = []
        for round_ in range(self.n):
            best = left[0]
            for offer in left:
                if self.ahead(offer, best):
                    best = offer
            left.remove(best)
            taken.append(best)
        return taken

    @staticmethod
    def ahead(offer, other):
        if offer[0] != other[0]:
            return offer[0] > other[0]
        if offer[1] != other[1]:
            return offer[1] < other[1]
        return offer[2] < other[2]

    def split(self):
        owners = [offer[1] for offer in self.met()]
        return [owners.count(owner) for owner in (9, 1, 2, 3, 4, 5, 6, 7, 8)]

    def sum_of(self):
        """The greatest sum by trying every split, with no order at all."""
        best = {0: 0}
        for row in list(self.bids.values()) + [[self.reserve] * self.n]:
            further = {}
            for given, total in best.items():
                for got in range(min(len(row), self.n - given) + 1):
                    reached = total + sum(row[:got])
                    further[given + got] = max(reached, further.get(given + got, reached))
            best = further
        return [0, best[self.n]]

    def pays(self, who):
        if who not in self.bids:
            return [-2]
        others = sum(offer[0] for offer in self.met() if offer[1] != who)
        return [0, self.without(who).sum_of()[1] - others]

    def prices(self, who):
        if who not in self.bids:
            return [-2]
        got = self.split()[who]
        return [got] + [offer[0] for offer in self.without(who).met()[::-1][:got]]

    def income(self):
        return [0, sum(self.pays(who)[1] for who in self.bids)]

    def told(self, who):
        if who not in self.bids:
            return [-2]
        return [0, sum(self.bids[who][:self.split()[who]])]

    def left(self):
        return set(self.everything()) - set(self.met())

    def one(self):
        left = [offer[0] for offer in self.left()]
        return [1, max(left)] if left else [0]

    def between(self):
        return (self.one() if self.left() else [0]) + [min(offer[0] for offer in self.met())]

    def shows(self, p, nine):
        if len(nine) != 9 or min(nine) < 0 or max(nine) > 60:
            return [-3]
        getting = dict(zip((9, 1, 2, 3, 4, 5, 6, 7, 8), nine))
        fits = sum(nine) == self.n
        for owner, got in getting.items():
            if owner == 9:
                fits = fits and got <= self.n
            elif owner in self.bids:
                fits = fits and got <= len(self.bids[owner])
            else:
                fits = fits and got == 0
        for amount, owner, place in self.everything():
            if place < getting[owner]:
                fits = fits and not amount < p
            else:
                fits = fits and not amount > p
        return [int(fits)]

    def wanted(self, who, p):
        if who not in self.bids:
            return [-2]
        return [sum(owner != who and amount > p for amount, owner, place in self.everything())]

    def is_truth(self, truth):
        return len(truth) == self.n and all(abs(number) <= TOP for number in truth)

    def gain(self, who, truth):
        if who not in self.bids:
            return [-2]
        if not self.is_truth(truth):
            return [-3]
        worth = 0
        for got in range(self.split()[who]):
            worth += truth[got]
        return [0, worth - self.pays(who)[1]]

    def bid_refused(self, who, row):
        if who not in range(1, 9):
            return [-1]
        if len(row) > self.n:
            return [-3]
        if any(abs(amount) > TOP for amount in row):
            return [-4]
        if row != sorted(row, reverse=True):
            return [-5]
        return None

    def ifbid(self, who, row, truth):
        refused = self.bid_refused(who, row)
        if refused:
            return refused
        if not self.is_truth(truth):
            return [-6]
        return self.with_row(who, row).gain(who, truth)

    def offers(self):
        told = [len(self.bids)]
        for who in range(1, 9):
            if who in self.bids:
                told += [who, len(self.bids[who])] + self.bids[who]
        return told

    def calls(self):
        return [slices(self.n, self.reserve)] + [bid(who, *row) for who, row in self.bids.items()]

    def seen(self):
        """What all views should answer."""
        shown = [self.offers(), self.split(), self.sum_of(), self.income(), self.one(), self.between()]
        for who in range(1, 9):
            shown.append(self.pays(who))
            shown.append(self.prices(who))
            shown.append(self.told(who))
        return shown


class Desk:
    """One object, told slowly: answers call by call from a Book."""

    asked = {3: "split", 4: "sum_of", 5: "pays", 6: "prices", 7: "income", 8: "told", 9: "one", 10: "between",
             12: "wanted", 15: "offers"}

    def __init__(self):
        self.book = None

    def answer(self, call):
        place, given = call[0], call[1:]
        if place == 0:
            return self.slices(*given)
        if self.book is None:
            return [-7]
        if place == 1:
            return self.bid(given[0], given[2:])
        if place == 2:
            return self.unbid(*given)
        if place == 11:
            return self.book.shows(given[0], given[2:])
        if place == 13:
            return self.book.gain(given[0], given[2:])
        if place == 14:
            end = 2 + given[1]
            return self.book.ifbid(given[0], given[2:end], given[end + 1:])
        return getattr(self.book, self.asked[place])(*given)

    def slices(self, n, reserve):
        if n not in range(1, 61):
            return [-1]
        if abs(reserve) > TOP:
            return [-2]
        self.book = Book(n, reserve, {})
        return [0]

    def bid(self, who, row):
        refused = self.book.bid_refused(who, row)
        if not refused:
            self.book = self.book.with_row(who, row)
        return refused or [len(self.book.bids)]

    def unbid(self, who):
        if who not in self.book.bids:
            return [-2]
        self.book = self.book.without(who)
        return [len(self.book.bids)]
