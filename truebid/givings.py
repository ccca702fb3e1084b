"""What givings are worth, and a giving than which none is worth more."""


def worth_of(sale, giving):
    return sum([row[thing] for row, thing in zip(sale, giving) if thing is not None])


def keep_if_better(kept, taken, worth, giving):
    if taken not in kept or worth > kept[taken][0]:
        kept[taken] = (worth, giving)


# What is left for later guests hangs on the things taken alone, so of all givings that
# take the same things (one bit for each) one that is worth most is enough to go on with.
def one_guest_more(kept, row):
    longer = {}
    for taken, pair in kept.items():
        worth = pair[0]
        giving = pair[1]
        keep_if_better(longer, taken, worth, giving + (None,))
        for thing, bid in enumerate(row):
            mark = 1 << thing
            if taken & mark == 0:
                keep_if_better(longer, taken | mark, worth + bid, giving + (thing,))
    return longer


def best(sale):
    kept = {0: (0, ())}
    for row in sale:
        kept = one_guest_more(kept, row)
    return max(list(kept.values()), key=lambda pair: pair[0])[1]


def most(sale):
    return worth_of(sale, best(sale))
