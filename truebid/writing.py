"""Sales written as texts."""

from truebid.errors import NoSale
from truebid.things import is_sale


def row_written(row):
    return " ".join([str(bid) for bid in row])


def written(sale):
    if not is_sale(sale):
        raise NoSale("what is no sale is not written")
    return " ; ".join([row_written(row) for row in sale])
