"""Houses, moves and walks reckoned by the tests themselves, to hold the program against.

A move is a plain tuple here: ("pour", one, other), ("fill", jug) or ("empty", jug). A goal
is one too: ("holds", jug, many), ("some", many), ("sum", jugs, many) or ("whole", state).
"""

import itertools

from jughouse.goals import Holds, Some, Sum, Whole
from jughouse.moves import Empty, Fill, Pour

SMALL = [[1], [4], [1, 1], [3, 5], [5, 3], [4, 4], [6, 1], [2, 4], [4, 3, 2], [1, 1, 5], [1, 2, 1, 2], [2, 1, 3, 2]]


def small_houses():
    return [(sizes, tap) for sizes in SMALL for tap in [True, False]]


def shown(move):
    """A move of the program as a plain tuple."""
    if type(move) is Pour:
        return ("pour", move.one, move.other)
    return ({Fill: "fill", Empty: "empty"}[type(move)], move.jug)


def all_states(sizes):
    return list(itertools.product(*[range(size + 1) for size in sizes]))


def all_moves(sizes, tap):
    jugs = range(len(sizes))
    moves = [("pour", one, other) for one in jugs for other in jugs if one != other]
    if tap:
        moves += [("fill", jug) for jug in jugs] + [("empty", jug) for jug in jugs]
    return moves


def with_jug(state, jug, many):
    return state[:jug] + (many,) + state[jug + 1:]


def drop_by_drop(sizes, state, one, other):
    """A pour done one unit at a time."""
    held = list(state)
    while held[one] > 0 and held[other] < sizes[other]:
        held[one] -= 1
        held[other] += 1
    return tuple(held)


def behind(sizes, state, move):
    if move[0] == "pour":
        return drop_by_drop(sizes, state, move[1], move[2])
    return with_jug(state, move[1], sizes[move[1]] if move[0] == "fill" else 0)


def edges(sizes, tap):
    """Each state with the set of states behind its moves."""
    moves = all_moves(sizes, tap)
    return {state: {behind(sizes, state, move) for move in moves} for state in all_states(sizes)}


def turned(graph):
    back = {state: set() for state in graph}
    for state, others in graph.items():
        for other in others:
            back[other].add(state)
    return back


def distances(graph, start):
    """Each state to which the edges lead from the start, with the fewest steps to it."""
    found = {start: 0}
    layer = {start}
    while layer:
        steps = found[next(iter(layer))] + 1
        layer = {other for state in layer for other in graph[state]} - found.keys()
        found.update((state, steps) for state in layer)
    return found


def knots_of(graph):
    """The knots, told as they should be: of each state what it leads to and what leads to it."""
    back = turned(graph)
    knots = []
    done = set()
    for state in sorted(graph):
        if state not in done:
            knot = sorted(distances(graph, state).keys() & distances(back, state).keys())
            knots.append(knot)
            done.update(knot)
    return knots


def made(goal):
    """A plain goal as one of the program."""
    return {"holds": Holds, "some": Some, "sum": Sum, "whole": Whole}[goal[0]](*goal[1:])


def meets(state, goal):
    if goal[0] == "holds":
        return state[goal[1]] == goal[2]
    if goal[0] == "some":
        return any(many == goal[1] for many in state)
    if goal[0] == "sum":
        return sum(state[jug] for jug in goal[1]) == goal[2]
    return state == goal[1]


def some_goals(sizes):
    """Goals of the four sorts for a house of these sizes, some of which no state comes to."""
    jugs = range(len(sizes))
    most = max(sizes) + 1
    goals = [("holds", jug, many) for jug in jugs for many in [*range(most + 1), 240]]
    goals += [("some", many) for many in [*range(most + 1), 240]]
    for long in range(1, len(sizes) + 1):
        for picked in itertools.combinations(jugs, long):
            goals += [("sum", list(picked)[::-1], many) for many in [0, 1, sum(sizes) // 2, sum(sizes), 240]]
    states = all_states(sizes)
    return goals + [("whole", state) for state in states[:: max(1, len(states) // 12)] + states[-1:]]
