"""A sale: slices, a reserve and bids, and what follows from them."""

HOUSE = 0
BIDDERS = 8


# A sale is never changed: another bid makes another sale, so what would be without a bid can be asked freely.
class Sale:
    def __init__(self, slices, reserve, bids):
        self.slices = slices
        self.reserve = reserve
        self.bids = bids


def with_bid(sale, who, offers):
    bids = dict(sale.bids)
    bids[who] = offers
    return Sale(sale.slices, sale.reserve, bids)


def without_bid(sale, who):
    bids = dict(sale.bids)
    bids.pop(who)
    return Sale(sale.slices, sale.reserve, bids)


# An offer is a pair: whose it is, and its amount.
def all_offers(sale):
    offers = []
    for who in range(1, BIDDERS + 1):
        for amount in sale.bids.get(who, []):
            offers.append((who, amount))
    for place in range(sale.slices):
        offers.append((HOUSE, sale.reserve))
    return offers


def greater_first(offer):
    return -offer[1]


# Sorting leaves equal offers as all_offers has them, and that is as ties go: the lesser bidder
# first, the house last, and of one bidder the earlier offer first.
def met_offers(sale):
    ordered = sorted(all_offers(sale), key=greater_first)
    return ordered[:sale.slices]


def amounts_of(offers):
    return [offer[1] for offer in offers]


def own_of(offers, who):
    return [offer for offer in offers if offer[0] == who]


def others_of(offers, who):
    return [offer for offer in offers if offer[0] != who]


def greatest_sum(sale):
    return sum(amounts_of(met_offers(sale)))


# The house is 0, so what stays comes ahead of what the bidders get.
def split_of(sale):
    met = met_offers(sale)
    return [len(own_of(met, who)) for who in range(BIDDERS + 1)]


def payment_of(sale, who):
    others = others_of(met_offers(sale), who)
    return greatest_sum(without_bid(sale, who)) - sum(amounts_of(others))


def prices_of(sale, who):
    got = len(own_of(met_offers(sale), who))
    met_else = met_offers(without_bid(sale, who))
    # Counted from the front: a slice [-got:] would be the whole list for a bidder who gets none.
    pushed_out = met_else[len(met_else) - got:]
    return amounts_of(list(reversed(pushed_out)))


def income_of(sale):
    return sum([payment_of(sale, who) for who in sale.bids])
