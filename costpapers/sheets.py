"""A sheet of equations, on which steps are made from one base to the next one."""

from costpapers.checks import check_task, is_an_integer, is_index
from costpapers.errors import BadStep, NoStep, NotSimple
from costpapers.other import unit
from costpapers.ratios import reduced
from costpapers.solve import pivoted


def check_simple(task):
    """Raise NotSimple for a task that is not simple."""
    kinds, _, rows = task
    if "*" in kinds or any([sign != "<=" or right < 0 for _, sign, right in rows]):
        raise NotSimple()


class Sheet:
    """The equations of a simple task, and the steps that are made on them."""

    # The equations are lines of whole numbers over one whole number, low, that is above 0: one line for each column of
    # the base, in the order of _bases, and the last one for what costs. Each line has a place for each column, and
    # behind these one for the right side.

    def __init__(self, task):
        check_task(task)
        check_simple(task)
        kinds, costs, rows = task
        many = len(rows)
        lines = [list(row[0] + unit(many, index)) + [row[2]] for index, row in enumerate(rows)]
        self._lines = lines + [list(costs) + [0] * (many + 1)]
        self._low = 1
        self._bases = [len(kinds) + index for index in range(many)]
        self._past = []

    @property
    def base(self):
        """The columns that are told by the others, rising."""
        return tuple(sorted(self._bases))

    @property
    def plan(self):
        """The ratios of all columns if those not in the base are 0."""
        told = [(0, 1) for _ in self._lines[-1][:-1]]
        for line, column in zip(self._lines, self._bases):
            told[column] = reduced(line[-1], self._low)
        return tuple(told)

    @property
    def cost(self):
        """What the plan costs."""
        return reduced(-self._lines[-1][-1], self._low)

    @property
    def steps(self):
        """How many steps are made and not taken back."""
        return len(self._past)

    def left_costs(self):
        """How much the cost grows if one column not in the base grows by 1, for each column."""
        return tuple([reduced(number, self._low) for number in self._lines[-1][:-1]])

    def entering(self):
        """The columns by which the cost falls, rising."""
        return tuple([column for column, number in enumerate(self._lines[-1][:-1]) if number < 0])

    def leaving(self, column):
        """The columns of the base that are 0 first if a column grows, rising, () if none ever is."""
        if not is_index(column, len(self._lines[-1]) - 1) or column in self._bases:
            raise BadStep()
        ends = [(line[-1], line[column], told) for line, told in zip(self._lines, self._bases) if line[column] > 0]
        first = []
        for right, number, told in ends:
            # A column is 0 when the one that grows is its right side over its number.
            if all([right * other_number <= other_right * number for other_right, other_number, _ in ends]):
                first.append(told)
        return tuple(sorted(first))

    def step(self, column, other):
        """Bring a column into the base for another one that is 0 first."""
        if other not in self.leaving(column) or not is_an_integer(other):
            raise BadStep()
        at = self._bases.index(other)
        self._past.append((self._lines, self._low, self._bases))
        self._lines, self._low = pivoted(self._lines, self._low, at, column)
        self._bases = self._bases[:at] + [column] + self._bases[at + 1:]

    def undo(self):
        """Take the last step back."""
        if not self._past:
            raise NoStep()
        self._lines, self._low, self._bases = self._past.pop()

    def is_best(self):
        """Tell whether the cost falls by no column."""
        return not self.entering()

    def is_endless(self):
        """Tell whether the cost falls for ever by some column."""
        return any([not self.leaving(column) for column in self.entering()])

    def run(self):
        """Make steps, always by the first columns, until there are none, and tell how many."""
        made = 0
        while True:
            columns = self.entering()
            others = self.leaving(columns[0]) if columns else ()
            if not others:
                return made
            self.step(columns[0], others[0])
            made += 1
