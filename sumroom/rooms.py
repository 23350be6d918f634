"""Rooms: letters, and sums of them that are told to be nothing."""

from math import gcd, lcm

from sumroom.errors import BadLetters, BadSpot, BadSum, NoNothing, TooMany
from sumroom.plans import Plan

MOST_LETTERS = 6
MOST_NOTHINGS = 16
FURTHEST = 1_000_000_000_000


def is_whole(thing):
    """Tell whether a thing, of any kind, is a whole number."""
    # A bool is an int to isinstance, so the kind itself is asked.
    return type(thing) is int


def is_row(thing, many):
    """Tell whether a thing, of any kind, is a list of so many whole numbers."""
    return type(thing) is list and len(thing) == many and all([is_whole(number) for number in thing])


def is_near_row(thing, many):
    """Tell whether a thing is a list of so many whole numbers that a nothing can have."""
    return is_row(thing, many) and all([-FURTHEST <= number <= FURTHEST for number in thing])


def are_near_rows(thing, many):
    """Tell whether a thing is a list of lists of so many whole numbers that a nothing can have."""
    return type(thing) is list and all([is_near_row(row, many) for row in thing])


def difference(one, other):
    """Return the one sum less the other."""
    return [first - second for first, second in zip(one, other)]


class Room:
    """A few letters, and some sums of them that are told to be nothing."""

    def __init__(self, letters, nothings=None):
        if not is_whole(letters) or letters < 0 or letters > MOST_LETTERS:
            raise BadLetters("a room has none to six letters")
        rows = [] if nothings is None else nothings
        if not are_near_rows(rows, letters):
            raise BadSum("no list of sums that a room can have as its nothings")
        if len(rows) > MOST_NOTHINGS:
            raise TooMany("a room has sixteen nothings at most")
        self._letters = letters
        self._nothings = [list(row) for row in rows]
        # Worked out when it is asked for, and always from all nothings in their
        # order: so a room tells the same however it came to them.
        self._plan = None

    def letters(self):
        """Return how many letters there are."""
        return self._letters

    def nothings(self):
        """Return the sums that are told to be nothing, in order."""
        return [list(row) for row in self._nothings]

    def put(self, one):
        """Tell one sum more to be nothing; return its number."""
        if not is_near_row(one, self._letters):
            raise BadSum("no sum that the room can have as a nothing")
        if len(self._nothings) >= MOST_NOTHINGS:
            raise TooMany("a room has sixteen nothings at most")
        self._nothings.append(list(one))
        self._plan = None
        return len(self._nothings) - 1

    def take(self, number):
        """Let the nothing of this number go."""
        if not is_whole(number) or number < 0 or number >= len(self._nothings):
            raise NoNothing("no nothing has this number")
        del self._nothings[number]
        self._plan = None

    def kinds(self):
        """Return the numbers, each of which goes into the next one, that tell the unlike sums."""
        return list(self._planned().moduli)

    def count(self):
        """Return how many unlike sums there are, None where they are without end."""
        many = 1
        for kind in self._planned().moduli:
            many = many * kind
        return many if many != 0 else None

    def spot(self, one):
        """Return the spot of a sum."""
        self._check(one)
        return self._planned().spot(one)

    def sum_at(self, spot):
        """Return a sum that has the spot."""
        plan = self._planned()
        if not is_row(spot, len(plan.moduli)):
            raise BadSpot("no list of one whole number for each kind")
        for place, kind in zip(spot, plan.moduli):
            if kind != 0 and (place < 0 or place >= kind):
                raise BadSpot("a number is not from 0 to its kind less 1")
        return plan.sum_at(spot)

    def alike(self, one, other):
        """Tell whether two sums are alike."""
        return not any(self._planned().spot(self._less(one, other)))

    def shown(self, one, other):
        """Return how many times each nothing is taken to come to one less other, None for unlike sums."""
        return self._planned().stairs.times(self._less(one, other))

    def apart(self, one, other):
        """Return a gauge, weights and a number, that tells the two sums apart, None for alike ones."""
        return self._planned().gauge(self._less(one, other))

    def order(self, one):
        """Return how many times a sum is taken, at least, until it is alike with nothing, None if it never is."""
        self._check(one)
        plan = self._planned()
        times = 1
        for place, kind in zip(plan.spot(one), plan.moduli):
            if kind != 0:
                times = lcm(times, kind // gcd(kind, place))
            elif place != 0:
                return None
        return times

    def _check(self, one):
        """Refuse what is no sum of the room."""
        if not is_row(one, self._letters):
            raise BadSum("no list of one whole number for each letter")

    def _less(self, one, other):
        """Return the one sum less the other, if both are sums of the room."""
        self._check(one)
        self._check(other)
        return difference(one, other)

    def _planned(self):
        """Return the plan of the letters and nothings as they are now."""
        if self._plan is None:
            self._plan = Plan(self._letters, self._nothings)
        return self._plan
