"""What rows of whole numbers come to: stairs, and the plan of a room that is made of them."""


def mixed(times, row, others, other):
    """Return `row` taken `times` times and `other` taken `others` times, put together."""
    return [times * first + others * second for first, second in zip(row, other)]


def woven(times, rows, width):
    """Return rows of `width` numbers, each taken as often as `times` says, put together."""
    total = [0] * width
    for many, row in zip(times, rows):
        total = mixed(1, total, many, row)
    return total


def weighed(row, weights):
    """Return what the numbers of a row, each times its weight, come to together."""
    return sum([number * weight for number, weight in zip(row, weights)])


def unit(at, width):
    """Return a row of noughts but for a 1 at one place."""
    return [1 if place == at else 0 for place in range(width)]


def turned(rows, width):
    """Return the columns of rows of `width` numbers."""
    return [[row[at] for row in rows] for at in range(width)]


def left_of(number, kind):
    """Return what a kind leaves of a number; 0 leaves it as it is."""
    return number % kind if kind != 0 else number


def common(first, second):
    """Return the largest number that goes into both, and how often each is taken to come to it.

    The first number is above nought.
    """
    if second % first == 0:
        # A step that goes into all it meets is not changed: so `levelled` comes to an end.
        return first, 1, 0
    part, times, others = first, 1, 0
    rest, rest_times, rest_others = second, 0, 1
    while rest != 0:
        many = part // rest
        part, rest = rest, part - many * rest
        times, rest_times = rest_times, times - many * rest_times
        others, rest_others = rest_others, others - many * rest_others
    if part < 0:
        return -part, -times, -others
    return part, times, others


class Stairs:
    """All that some rows of `width` numbers come to, as steps of which each starts further right.

    A long row is a row put together of the rows, and behind it, for each of them,
    how many times it is taken.
    """

    def __init__(self, width, rows):
        self._width = width
        self._many = len(rows)
        # Long rows by the column in which they start.
        self._steps = {}
        # Long rows that come to noughts, each behind the last column in which it has
        # another number; the last column first, so that one does not undo another.
        self._idle = []
        for at, row in enumerate(rows):
            self._lay(at, row + unit(at, self._many))
            self._tidy()

    def _lay(self, at, long):
        """Let the stairs take in the long row of the row of number `at`."""
        for column in range(self._width):
            if long[column] == 0:
                continue
            if column not in self._steps:
                sign = 1 if long[column] > 0 else -1
                self._steps[column] = [sign * number for number in long]
                return
            long = self._met(column, long)
        self._idle.insert(0, (self._width + at, long))

    def _met(self, column, long):
        """Let the step of a column take in a long row; return what is left of it, 0 in that column."""
        step = self._steps[column]
        part, times, others = common(step[column], long[column])
        if others != 0:
            self._steps[column] = self._tidied(mixed(times, step, others, long), column + 1)
        return self._tidied(mixed(step[column] // part, long, -(long[column] // part), step), column + 1)

    def _tidied(self, long, start):
        """Return a long row less whole steps that start at a column or behind it.

        Its numbers stay small so, and it is the same for rows that differ by such steps.
        """
        steps = [(column, self._steps[column]) for column in range(start, self._width) if column in self._steps]
        for column, step in steps + self._idle:
            many = long[column] // step[column]
            if many != 0:
                long = mixed(1, long, -many, step)
        return long

    def _tidy(self):
        """Tidy each step by those behind it."""
        for column in range(self._width):
            if column in self._steps:
                self._steps[column] = self._tidied(self._steps[column], column + 1)

    def steps(self):
        """Return rows of which all is put together that is put together of the rows, in just one way."""
        return [self._steps[column][:self._width] for column in sorted(self._steps)]

    def step_times(self):
        """Return for each step how many times each row is taken to come to it."""
        return [self._steps[column][self._width:] for column in sorted(self._steps)]

    def idle_times(self):
        """Return lists of how many times each row is taken to come to noughts.

        All such lists are put together of these, in just one way.
        """
        return [long[self._width:] for _, long in self._idle]

    def rest(self, row):
        """Return a row less whole steps: noughts just where it is put together of the rows."""
        return self._tidied(row + [0] * self._many, 0)[:self._width]

    def times(self, row):
        """Return how many times each of the rows is taken to come to this one, None if it is not put together so."""
        long = self._tidied(row + [0] * self._many, 0)
        if any(long[:self._width]):
            return None
        return [-number for number in long[self._width:]]


def is_straight(rows):
    """Tell whether steps, as many as columns, have noughts behind the number with which they start."""
    return not any([any(row[at + 1:]) for at, row in enumerate(rows)])


def uneven(kinds):
    """Return the place of the first number that does not go into the next one, None if there is none."""
    for at in range(len(kinds) - 1):
        if kinds[at + 1] % kinds[at] != 0:
            return at
    return None


def levelled(width, steps):
    """Return kinds, perhaps with ones ahead, and as many rows of weights, as many as columns.

    A row is put together of the steps just where each kind goes into what the row
    weighs; and rows can weigh whatever one likes by all of these weights at once.
    """
    weights = [unit(at, width) for at in range(width)]
    free = []
    rows = steps
    while True:
        upright = Stairs(len(rows), turned(rows, len(weights)))
        free = free + [woven(times, weights, width) for times in upright.idle_times()]
        weights = [woven(times, weights, width) for times in upright.step_times()]
        rows = Stairs(len(weights), turned(upright.steps(), len(rows))).steps()
        if is_straight(rows):
            kinds = [row[at] for at, row in enumerate(rows)]
            at = uneven(kinds)
            if at is None:
                return kinds + [0] * len(free), weights + free
            # The next round then puts the largest number that goes into both here.
            rows[at] = mixed(1, rows[at], 1, rows[at + 1])


def kinds_of(width, rows):
    """Return the kinds by which rows of `width` numbers are told, where these rows are told to be nothing."""
    moduli, _ = levelled(width, Stairs(width, rows).steps())
    return [kind for kind in moduli if kind != 1]


class Plan:
    """What the letters and nothings of a room come to."""

    def __init__(self, letters, nothings):
        self.stairs = Stairs(letters, nothings)
        moduli, gauges = levelled(letters, self.stairs.steps())
        # The sum that weighs 1 by one row of weights and 0 by each other one.
        corners = Stairs(letters, turned(gauges, letters)).step_times()
        kept = [at for at in range(letters) if moduli[at] != 1]
        self.moduli = [moduli[at] for at in kept]
        self.gauges = [[left_of(weight, moduli[at]) for weight in gauges[at]] for at in kept]
        self._corners = [self.stairs.rest(corners[at]) for at in kept]
        self._letters = letters

    def spot(self, one):
        """Return the spot of a sum."""
        return [left_of(weighed(one, weights), kind) for weights, kind in zip(self.gauges, self.moduli)]

    def sum_at(self, spot):
        """Return a sum that has the spot."""
        return self.stairs.rest(woven(spot, self._corners, self._letters))

    def gauge(self, gap):
        """Return a gauge, weights and a number that does not go into what the sum weighs, None if it is nothing."""
        for at, place in enumerate(self.spot(gap)):
            if place != 0:
                return list(self.gauges[at]), self.moduli[at]
        return None
