"""The refusals of Lenthaste."""


class HasteError(ValueError):
    """Any refusal."""


class TooMany(HasteError):
    """There are not 1 to 8 workers."""


class BadWorker(HasteError):
    """A worker is no tuple of three."""


class BadRank(HasteError):
    """A worker's rank is none, or a worker ahead has it."""


class BadStart(HasteError):
    """A worker's start is none."""


class BadPlan(HasteError):
    """A worker's plan is none."""


class NoWorker(HasteError):
    """What was asked for is no worker's number."""
