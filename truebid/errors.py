"""The refusals of the program."""


class SaleError(ValueError):
    pass


class NoSale(SaleError):
    pass


class NoText(SaleError):
    pass


class NoRoom(SaleError):
    pass
