"""Ways: where the sums of a room go in another one, what is left out so and what is reached."""

from sumroom.errors import BadSum, NoWay
from sumroom.plans import Plan, Stairs, kinds_of, woven
from sumroom.rooms import are_near_rows, is_row


def first_astray(rows, ground):
    """Return the number of the first row that is not put together of the rows of the stairs, None if each one is."""
    for at, row in enumerate(rows):
        if any(ground.rest(row)):
            return at
    return None


class Way:
    """A way from a room to another one: a sum of the other one for each letter of the first."""

    def __init__(self, one, other, sums):
        self._letters = one.letters()
        self._width = other.letters()
        if not are_near_rows(sums, self._width) or len(sums) != self._letters:
            raise BadSum("no list of as many sums of the other room as the first one has letters")
        self._sums = [list(row) for row in sums]
        # All is worked out here, so what is done to the rooms later does not count.
        nothings = one.nothings()
        ground = Stairs(self._width, other.nothings())
        at = first_astray([self._gone(row) for row in nothings], ground)
        if at is not None:
            raise NoWay(at)
        self._reach = Plan(self._width, self._sums + ground.steps())
        # The way's sums, so often taken, come to noughts together with nothings of the
        # other room: these are the sums that are left out.
        idle = [times[:self._letters] for times in self._reach.stairs.idle_times()]
        self._left_out = Stairs(self._letters, idle).steps()
        self._left = Stairs(self._letters, self._left_out)
        self._left_kinds = kinds_of(len(self._left_out), [self._left.times(row) for row in nothings])
        # Two sums go to alike ones just where the one less the other is left out.
        self._reached_kinds = kinds_of(self._letters, self._left_out)

    def image(self, one):
        """Return the sum of the other room to which a sum of the first goes."""
        self._check(one, self._letters)
        return self._gone(one)

    def left_out(self):
        """Return sums of which all is put together that is left out, in just one way."""
        return [list(row) for row in self._left_out]

    def left_as(self, one):
        """Return how many times each of the sums of `left_out` is taken for a sum, None if it is not left out."""
        self._check(one, self._letters)
        return self._left.times(one)

    def left_kinds(self):
        """Return the kinds by which the sums that are left out are told."""
        return list(self._left_kinds)

    def reached_kinds(self):
        """Return the kinds by which the reached sums are told."""
        return list(self._reached_kinds)

    def over_kinds(self):
        """Return the kinds of the other room with all that is reached told to be nothing, too."""
        return list(self._reach.moduli)

    def source(self, one):
        """Return a sum that goes to one alike with this one, None if this one is not reached."""
        self._check(one, self._width)
        times = self._reach.stairs.times(one)
        if times is None:
            return None
        return self._left.rest(times[:self._letters])

    def bar(self, one):
        """Return a gauge that shows that a sum is not reached, None if it is."""
        self._check(one, self._width)
        return self._reach.gauge(one)

    def _check(self, one, letters):
        """Refuse what is no sum of a room of so many letters."""
        if not is_row(one, letters):
            raise BadSum("no list of one whole number for each letter")

    def _gone(self, one):
        """Return the way's sums, each taken as many times as its letter is."""
        return woven(one, self._sums, self._width)
