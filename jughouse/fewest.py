"""The fewest moves to a goal, and what shows that fewer won't do, or that none will."""

from jughouse.checks import held_in
from jughouse.goals import check_goal
from jughouse.reach import ways_from


class Answer:
    pass


class Poured(Answer):
    def __init__(self, pours, heights):
        # Copies, so that lists changed behind don't change the answer.
        self.pours = list(pours)
        self.heights = [tuple(pair) for pair in heights]


class Barred(Answer):
    def __init__(self, among):
        self.among = list(among)


def nearest(house, ways, goal):
    # The ways hold nearer states ahead of farther ones, so the first found is a nearest.
    for state in ways:
        if goal.come(house, state):
            return state
    return None


def moves_to(ways, state):
    back = []
    way = ways[state]
    while way is not None:
        back.append(way[1])
        way = ways[way[0]]
    return list(reversed(back))


def heights_in(ways):
    heights = {}
    for state in ways:
        way = ways[state]
        heights[state] = 0 if way is None else heights[way[0]] + 1
    return list(heights.items())


def fewest(house, state, goal):
    # The state is looked at ahead of the goal, for BadState comes ahead of BadGoal.
    held_in(house, state)
    check_goal(goal)
    ways = ways_from(house, state)
    last = nearest(house, ways, goal)
    if last is None:
        return Barred(list(ways))
    return Poured(moves_to(ways, last), heights_in(ways))
