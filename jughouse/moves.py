"""Moves: what is poured, filled and emptied, and the state behind it."""

from jughouse.checks import held_in, is_jug
from jughouse.errors import BadMove


def check_jug(jug):
    if not is_jug(jug):
        raise BadMove("a jug of a move is a whole number from 0 to 3")


def check_house_has(house, jug):
    if jug >= len(house.sizes()):
        raise BadMove("the house hasn't the jug of this move")


def check_house_can_tap(house, jug):
    check_house_has(house, jug)
    if not house.tap:
        raise BadMove("the house has no tap to fill and empty jugs at")


def with_amount(held, jug, many):
    behind = list(held)
    behind[jug] = many
    return behind


class Move:
    def done(self, house, state):
        # The state is looked at ahead of the move, for BadState comes ahead of BadMove.
        held = held_in(house, state)
        return tuple(self.held_behind(house, held))

    def held_behind(self, house, held):
        raise BadMove("a move is a Pour, a Fill or an Empty")


class Pour(Move):
    def __init__(self, one, other):
        check_jug(one)
        check_jug(other)
        if one == other:
            raise BadMove("water is poured between two different jugs")
        self.one = one
        self.other = other

    def held_behind(self, house, held):
        check_house_has(house, self.one)
        check_house_has(house, self.other)
        room = house.sizes()[self.other] - held[self.other]
        many = min(held[self.one], room)
        less = with_amount(held, self.one, held[self.one] - many)
        return with_amount(less, self.other, held[self.other] + many)


class Fill(Move):
    def __init__(self, jug):
        check_jug(jug)
        self.jug = jug

    def held_behind(self, house, held):
        check_house_can_tap(house, self.jug)
        return with_amount(held, self.jug, house.sizes()[self.jug])


class Empty(Move):
    def __init__(self, jug):
        check_jug(jug)
        self.jug = jug

    def held_behind(self, house, held):
        check_house_can_tap(house, self.jug)
        return with_amount(held, self.jug, 0)


def moves_in(moves):
    if not isinstance(moves, list):
        raise BadMove("moves are handed in as a list")
    told = list(moves)
    for move in told:
        # Asked of the three sorts, for a Move that is none of them tells no move.
        if not isinstance(move, (Pour, Fill, Empty)):
            raise BadMove("a list of moves holds moves alone")
    return told


def done_all(moves, house, state):
    told = moves_in(moves)
    # Looked at here too, for a wrong state is refused also where there is no move.
    behind = tuple(held_in(house, state))
    for move in told:
        behind = move.done(house, behind)
    return behind
