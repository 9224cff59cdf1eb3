"""The house: takes a list of calls apart, answers each call, and puts the answers together."""

from slicesale.sale import BIDDERS
from slicesale.sale import Sale
from slicesale.sale import amounts_of
from slicesale.sale import gain_of
from slicesale.sale import greatest_sum
from slicesale.sale import income_of
from slicesale.sale import least_met
from slicesale.sale import left_offers
from slicesale.sale import payment_of
from slicesale.sale import prices_of
from slicesale.sale import shows_split
from slicesale.sale import split_of
from slicesale.sale import told_of
from slicesale.sale import wanted_of
from slicesale.sale import with_bid
from slicesale.sale import without_bid

MOST_SLICES = 60
MOST_AMOUNT = 1000000000

NO_REFUSAL = 0
SLICES_BEYOND = -1
RESERVE_BEYOND = -2
WHO_BEYOND = -1
NO_BID = -2
TOO_MANY_OFFERS = -3
OFFER_BEYOND = -4
OFFER_RISES = -5
SPLIT_BEYOND = -3
TRUTH_BEYOND = -3
IFBID_TRUTH_BEYOND = -6
NO_SLICES = -7


# There is no sale until slices has been called without a refusal.
class House:
    def __init__(self):
        self.sale = None


class Reader:
    def __init__(self, calls):
        self.calls = calls
        self.at = 0

    def done(self):
        return self.at >= len(self.calls)

    def number(self):
        self.at = self.at + 1
        return self.calls[self.at - 1]

    # What is given is a copy, so that a bid that's kept is not part of what was handed in.
    def numbers(self, how_many):
        begin = self.at
        self.at = begin + how_many
        return self.calls[begin:self.at]

    def row(self):
        how_many = self.number()
        return self.numbers(how_many)


def is_amount(number):
    return -MOST_AMOUNT <= number <= MOST_AMOUNT


def rises(offers):
    return any([offers[k] > offers[k - 1] for k in range(1, len(offers))])


def bid_refusal(sale, who, offers):
    if not 1 <= who <= BIDDERS:
        return WHO_BEYOND
    if len(offers) > sale.slices:
        return TOO_MANY_OFFERS
    if not all([is_amount(offer) for offer in offers]):
        return OFFER_BEYOND
    if rises(offers):
        return OFFER_RISES
    return NO_REFUSAL


def is_split(numbers):
    return len(numbers) == BIDDERS + 1 and all([0 <= number <= MOST_SLICES for number in numbers])


def is_truth(sale, numbers):
    return len(numbers) == sale.slices and all([is_amount(number) for number in numbers])


def answer_slices(house, numbers, rows):
    slices = numbers[0]
    reserve = numbers[1]
    if not 1 <= slices <= MOST_SLICES:
        return [SLICES_BEYOND]
    if not is_amount(reserve):
        return [RESERVE_BEYOND]
    house.sale = Sale(slices, reserve, {})
    return [0]


def answer_bid(house, numbers, rows):
    who = numbers[0]
    offers = rows[0]
    refusal = bid_refusal(house.sale, who, offers)
    if refusal != NO_REFUSAL:
        return [refusal]
    house.sale = with_bid(house.sale, who, offers)
    return [len(house.sale.bids)]


def answer_unbid(house, numbers, rows):
    who = numbers[0]
    if who not in house.sale.bids:
        return [NO_BID]
    house.sale = without_bid(house.sale, who)
    return [len(house.sale.bids)]


def answer_split(house, numbers, rows):
    return split_of(house.sale)


def answer_sum_of(house, numbers, rows):
    return [0, greatest_sum(house.sale)]


def answer_pays(house, numbers, rows):
    who = numbers[0]
    if who not in house.sale.bids:
        return [NO_BID]
    return [0, payment_of(house.sale, who)]


def answer_prices(house, numbers, rows):
    who = numbers[0]
    if who not in house.sale.bids:
        return [NO_BID]
    prices = prices_of(house.sale, who)
    return [len(prices)] + prices


def answer_income(house, numbers, rows):
    return [0, income_of(house.sale)]


def answer_told(house, numbers, rows):
    who = numbers[0]
    if who not in house.sale.bids:
        return [NO_BID]
    return [0, told_of(house.sale, who)]


def answer_one(house, numbers, rows):
    left = amounts_of(left_offers(house.sale))
    if len(left) == 0:
        return [0]
    return [1, left[0]]


def answer_between(house, numbers, rows):
    left = amounts_of(left_offers(house.sale))
    least = least_met(house.sale)
    if len(left) == 0:
        return [0, least]
    return [1, left[0], least]


def answer_shows(house, numbers, rows):
    price = numbers[0]
    split = rows[0]
    if not is_split(split):
        return [SPLIT_BEYOND]
    return [1 if shows_split(house.sale, price, split) else 0]


def answer_wanted(house, numbers, rows):
    who = numbers[0]
    price = numbers[1]
    if who not in house.sale.bids:
        return [NO_BID]
    return [wanted_of(house.sale, who, price)]


def answer_gain(house, numbers, rows):
    who = numbers[0]
    truth = rows[0]
    if who not in house.sale.bids:
        return [NO_BID]
    if not is_truth(house.sale, truth):
        return [TRUTH_BEYOND]
    return [0, gain_of(house.sale, who, truth)]


def answer_ifbid(house, numbers, rows):
    who = numbers[0]
    offers = rows[0]
    truth = rows[1]
    refusal = bid_refusal(house.sale, who, offers)
    if refusal != NO_REFUSAL:
        return [refusal]
    if not is_truth(house.sale, truth):
        return [IFBID_TRUTH_BEYOND]
    # Another sale, which the house doesn't take up: the bids that are there stay as they are.
    return [0, gain_of(with_bid(house.sale, who, offers), who, truth)]


def answer_offers(house, numbers, rows):
    bids = house.sale.bids
    answer = [len(bids)]
    for who in sorted(bids):
        answer.append(who)
        answer.append(len(bids[who]))
        answer.extend(bids[who])
    return answer


SLICES = 0

# By a call's place: what answers it, how many whole numbers it has, and how many rows.
CALLS = (
    (answer_slices, 2, 0),
    (answer_bid, 1, 1),
    (answer_unbid, 1, 0),
    (answer_split, 0, 0),
    (answer_sum_of, 0, 0),
    (answer_pays, 1, 0),
    (answer_prices, 1, 0),
    (answer_income, 0, 0),
    (answer_told, 1, 0),
    (answer_one, 0, 0),
    (answer_between, 0, 0),
    (answer_shows, 1, 1),
    (answer_wanted, 2, 0),
    (answer_gain, 1, 1),
    (answer_ifbid, 1, 2),
    (answer_offers, 0, 0),
)


def answer_next(house, reader):
    place = reader.number()
    call = CALLS[place]
    answer = call[0]
    numbers = reader.numbers(call[1])
    rows = []
    for k in range(call[2]):
        rows.append(reader.row())
    # Only behind the reading, so that the next call is found after a refusal too.
    if place != SLICES and house.sale is None:
        return [NO_SLICES]
    return answer(house, numbers, rows)


def answers(calls):
    house = House()
    reader = Reader(calls)
    answered = []
    while not reader.done():
        answer = answer_next(house, reader)
        answered.append(len(answer))
        answered.extend(answer)
    return answered
