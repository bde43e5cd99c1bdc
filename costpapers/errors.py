"""The errors of the package."""


class PlanError(ValueError):
    """The base class of all errors of the package."""


class BadTask(PlanError):
    """A value that is no task: index is that of its first row that is none, or None if something else is wrong."""

    def __init__(self, index):
        self.index = index


class BadPlan(PlanError):
    """A value that is no tuple of a ratio for each column, or for each row."""


class BadRow(PlanError):
    """A value that is no row of a task."""


class BadNumber(PlanError):
    """A value that is not such a number as is asked for."""


class NotBest(PlanError):
    """A task that does not end "best"."""


class NoOther(PlanError):
    """A task that has no other side."""


class NoPlan(PlanError):
    """A task that has no plan."""


class TooWide(PlanError):
    """A task with more columns than the most that are allowed."""

    def __init__(self, most):
        self.most = most


class BadLists(PlanError):
    """A value that is not such a tuple of points, directions, marks or numbers as is asked for."""


class BadTable(PlanError):
    """A value that is no table, no mix, no table of goods, or no prices."""


class BadTransport(PlanError):
    """A value that is no transport, or none of its stores or shops."""


class BadNet(PlanError):
    """A value that is no net."""


class NoWay(PlanError):
    """A net without a way from its first place to its last one."""


class NotBounded(PlanError):
    """A task with a column without ends, or with too many whole tuples between the ends."""


class BadOrder(PlanError):
    """A value that does not tell all columns, or all rows, in some order."""


class NotText(PlanError):
    """A value that is no text that can be read."""


class InvalidText(PlanError):
    """A text that is wrong: place is that of the first sign that cannot stand there."""

    def __init__(self, place):
        self.place = place


class NotSimple(PlanError):
    """A task that is not simple."""


class BadStep(PlanError):
    """A column that a step cannot take."""


class NoStep(PlanError):
    """No step is left that could be taken back."""
