"""All refusals of the program, side by side beneath one."""


class RunError(ValueError):
    pass


class BadNumber(RunError):
    pass


class BadText(RunError):
    pass


class NoLabel(RunError):
    pass


class BadWords(RunError):
    pass


class BadState(RunError):
    pass


class NoAddress(RunError):
    pass
