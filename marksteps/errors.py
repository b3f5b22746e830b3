"""The refusals: RowError stands above all of them, and none of the others above another one."""


class RowError(ValueError):
    pass


class NoForm(RowError):
    pass


class NoPlace(RowError):
    pass


class NoRow(RowError):
    pass


class NoChange(RowError):
    pass
