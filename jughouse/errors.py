"""The refusals of the program, one class for each."""


class JugError(ValueError):
    pass


class BadHouse(JugError):
    pass


class BadState(JugError):
    pass


class BadMove(JugError):
    pass


class BadGoal(JugError):
    pass


class BadText(JugError):
    pass
