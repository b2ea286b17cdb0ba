"""Houses: jugs of their sizes, a tap or none, their moves and their states."""

from jughouse.checks import MOST_JUGS, MOST_SIZE, is_number
from jughouse.errors import BadHouse
from jughouse.moves import Empty, Fill, Pour

MOST_STATES = 2000


def sizes_in(sizes):
    if not isinstance(sizes, list):
        raise BadHouse("the sizes are handed in as a list")
    told = list(sizes)
    if not 1 <= len(told) <= MOST_JUGS:
        raise BadHouse("a house has 1 to 4 jugs")
    for size in told:
        if not is_number(size, 1, MOST_SIZE):
            raise BadHouse("a size is a whole number from 1 to 60")
    if count_states(told) > MOST_STATES:
        raise BadHouse("the sizes, each with one more, multiplied are at most 2000")
    return told


def count_states(sizes):
    many = 1
    for size in sizes:
        many = many * (size + 1)
    return many


def pours_among(many):
    pours = []
    for one in range(many):
        for other in range(many):
            if one != other:
                pours.append(Pour(one, other))
    return pours


def with_one_more(states, size):
    # The jug to come last changes fastest, so the order of tuples stays.
    longer = []
    for state in states:
        for many in range(size + 1):
            longer.append(state + (many,))
    return longer


class House:
    def __init__(self, sizes, tap):
        # A tuple, so that nothing can change the sizes behind.
        self.jug_sizes = tuple(sizes_in(sizes))
        if not isinstance(tap, bool):
            raise BadHouse("a tap is there or not: True or False")
        self.tap = tap

    def sizes(self):
        return list(self.jug_sizes)

    def moves(self):
        many = len(self.jug_sizes)
        told = pours_among(many)
        if self.tap:
            told.extend([Fill(jug) for jug in range(many)])
            told.extend([Empty(jug) for jug in range(many)])
        return told

    def states(self):
        told = [()]
        for size in self.jug_sizes:
            told = with_one_more(told, size)
        return told

    def empty(self):
        return tuple([0 for size in self.jug_sizes])
