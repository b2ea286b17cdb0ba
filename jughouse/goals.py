"""Goals: what a state may be asked to come to."""

from jughouse.checks import MOST_JUGS, MOST_SIZE, held_in, is_jug, is_number
from jughouse.errors import BadGoal, BadState

MOST_AMOUNT = 240


def check_jug(jug):
    if not is_jug(jug):
        raise BadGoal("a jug of a goal is a whole number from 0 to 3")


def check_amount(many):
    # Asked apart from the sizes of jugs: a goal that no state can come to is a goal still.
    if not is_number(many, 0, MOST_AMOUNT):
        raise BadGoal("an amount is a whole number from 0 to 240")


def jugs_in(jugs):
    if not isinstance(jugs, list):
        raise BadGoal("the jugs of a sum are handed in as a list")
    told = list(jugs)
    for jug in told:
        check_jug(jug)
    if len(told) == 0:
        raise BadGoal("a sum is of one jug at least")
    if len(set(told)) != len(told):
        raise BadGoal("the jugs of a sum are different ones")
    return told


def amounts_in(state):
    if not isinstance(state, tuple):
        raise BadGoal("the state of a goal is a tuple")
    told = list(state)
    if not 1 <= len(told) <= MOST_JUGS:
        raise BadGoal("the state of a goal tells of 1 to 4 jugs")
    for many in told:
        if not is_number(many, 0, MOST_SIZE):
            raise BadGoal("in the state of a goal a jug holds a whole number from 0 to 60")
    return told


def check_house_has(house, jug):
    if jug >= len(house.sizes()):
        raise BadGoal("the house hasn't a jug of this goal")


def check_state_of(house, state):
    try:
        held_in(house, state)
    except BadState:
        raise BadGoal("the tuple of this goal is no state of the house") from None


class Goal:
    def come(self, house, state):
        # The state is looked at ahead of the goal, for BadState comes ahead of BadGoal.
        held = held_in(house, state)
        return self.met_by(house, held)

    def met_by(self, house, held):
        raise BadGoal("a goal is a Holds, a Some, a Sum or a Whole")


class Holds(Goal):
    def __init__(self, jug, many):
        check_jug(jug)
        check_amount(many)
        self.jug = jug
        self.many = many

    def met_by(self, house, held):
        check_house_has(house, self.jug)
        return held[self.jug] == self.many


class Some(Goal):
    def __init__(self, many):
        check_amount(many)
        self.many = many

    def met_by(self, house, held):
        return self.many in held


class Sum(Goal):
    def __init__(self, jugs, many):
        # A tuple, so that nothing can change the jugs behind.
        self.jugs = tuple(jugs_in(jugs))
        check_amount(many)
        self.many = many

    def met_by(self, house, held):
        for jug in self.jugs:
            check_house_has(house, jug)
        return sum([held[jug] for jug in self.jugs]) == self.many


class Whole(Goal):
    def __init__(self, state):
        self.state = tuple(amounts_in(state))

    def met_by(self, house, held):
        check_state_of(house, self.state)
        return tuple(held) == self.state


def check_goal(goal):
    # Asked of the four sorts, for a Goal that is none of them tells no goal.
    if not isinstance(goal, (Holds, Some, Sum, Whole)):
        raise BadGoal("a goal is a Holds, a Some, a Sum or a Whole")
