"""The refusals of the program, one class for each."""


class StrollError(ValueError):
    pass


class NoHouse(StrollError):
    pass


class NoRoom(StrollError):
    pass


class NoCount(StrollError):
    pass


class NoShares(StrollError):
    pass


class NotBack(StrollError):
    pass


class Parted(StrollError):
    pass


class NoNote(StrollError):
    pass
