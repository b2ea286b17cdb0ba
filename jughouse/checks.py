"""What several parts of the program ask of the values handed in.

The words of a refusal never show the value refused: a value of any kind may come,
and some can't be written as a text (a number of very many figures, for one).
"""

from jughouse.errors import BadState

MOST_JUGS = 4
MOST_SIZE = 60


def is_number(value, least, most):
    # For Python True and False are whole numbers, for this program they are none.
    return isinstance(value, int) and not isinstance(value, bool) and least <= value <= most


def is_jug(value):
    return is_number(value, 0, MOST_JUGS - 1)


def held_in(house, state):
    if not isinstance(state, tuple):
        raise BadState("a state is a tuple")
    held = list(state)
    sizes = house.sizes()
    if len(held) != len(sizes):
        raise BadState("a state tells of each jug of the house, and of no other")
    for many, size in zip(held, sizes):
        if not is_number(many, 0, size):
            raise BadState("a jug holds a whole number from 0 to its size")
    return held
