"""A sale: slices, a reserve and bids, and what follows from them."""

HOUSE = 0
BIDDERS = 8


# A sale is never changed: another bid makes another sale, so what would be without a bid can be asked freely.
class Sale:
    def __init__(self, slices, reserve, bids):
        self.slices = slices
        self.reserve = reserve
        self.bids = bids


def with_bid(sale, who, offers):
    bids = dict(sale.bids)
    bids[who] = offers
    return Sale(sale.slices, sale.reserve, bids)


def without_bid(sale, who):
    bids = dict(sale.bids)
    bids.pop(who)
    return Sale(sale.slices, sale.reserve, bids)


def bidders():
    return list(range(1, BIDDERS + 1))


def row_of(sale, who):
    if who == HOUSE:
        return [sale.reserve] * sale.slices
    return sale.bids.get(who, [])


# An offer is a pair: whose it is, and its amount.
def all_offers(sale):
    offers = []
    for who in bidders() + [HOUSE]:
        offers.extend([(who, amount) for amount in row_of(sale, who)])
    return offers


def greater_first(offer):
    return -offer[1]


# Sorting leaves equal offers as all_offers has them, and that is as ties go: the lesser bidder
# first, the house last, and of one bidder the earlier offer first.
def in_order(sale):
    return sorted(all_offers(sale), key=greater_first)


def met_offers(sale):
    return in_order(sale)[:sale.slices]


def left_offers(sale):
    return in_order(sale)[sale.slices:]


def amounts_of(offers):
    return [offer[1] for offer in offers]


def own_of(offers, who):
    return [offer for offer in offers if offer[0] == who]


def others_of(offers, who):
    return [offer for offer in offers if offer[0] != who]


def greatest_sum(sale):
    return sum(amounts_of(met_offers(sale)))


def got_by(sale, who):
    return len(own_of(met_offers(sale), who))


def split_of(sale):
    met = met_offers(sale)
    return [len(own_of(met, who)) for who in [HOUSE] + bidders()]


def payment_of(sale, who):
    others = others_of(met_offers(sale), who)
    return greatest_sum(without_bid(sale, who)) - sum(amounts_of(others))


def prices_of(sale, who):
    got = got_by(sale, who)
    met_else = met_offers(without_bid(sale, who))
    # Counted from the front: a slice [-got:] would be the whole list for a bidder who gets none.
    pushed_out = met_else[len(met_else) - got:]
    return amounts_of(list(reversed(pushed_out)))


def income_of(sale):
    return sum([payment_of(sale, who) for who in sale.bids])


def told_of(sale, who):
    return sum(amounts_of(own_of(met_offers(sale), who)))


# The house has an offer for each slice, so there is always one that's met.
def least_met(sale):
    return amounts_of(met_offers(sale))[-1]


def proves(price, row, got):
    if got > len(row):
        return False
    for_got = row[:got]
    for_others = row[got:]
    return all([amount >= price for amount in for_got]) and all([amount <= price for amount in for_others])


# Who has no bid has no offers, and so can't get more than none.
def shows_split(sale, price, split):
    if sum(split) != sale.slices:
        return False
    return all([proves(price, row_of(sale, who), split[who]) for who in [HOUSE] + bidders()])


def wanted_of(sale, who, price):
    others = others_of(all_offers(sale), who)
    return len([offer for offer in others if offer[1] > price])


def gain_of(sale, who, truth):
    return sum(truth[:got_by(sale, who)]) - payment_of(sale, who)
