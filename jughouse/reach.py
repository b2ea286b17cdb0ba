"""What moves lead to: reached states, measured amounts, tied states and knots.

Every walk here goes by a loop, never by a function that calls itself: a way may lead
through many hundreds of states.
"""

from jughouse.checks import held_in


def ways_from(house, state):
    # Each reached state with the state ahead of it and the move between them, None for
    # the first. Nearer states come in earlier, so each has a shortest way back.
    start = tuple(held_in(house, state))
    moves = house.moves()
    ways = {start: None}
    row = [start]
    place = 0
    while place < len(row):
        here = row[place]
        for move in moves:
            behind = move.done(house, here)
            if behind not in ways:
                ways[behind] = (here, move)
                row.append(behind)
        place += 1
    return ways


def reached(house, state):
    return sorted(ways_from(house, state))


def measured(house, state):
    amounts = {}
    for held in ways_from(house, state):
        for many in held:
            amounts[many] = True
    return sorted(amounts)


def tied(house, one, other):
    ahead = tuple(held_in(house, one))
    behind = tuple(held_in(house, other))
    return behind in ways_from(house, ahead) and ahead in ways_from(house, behind)


def states_behind(house):
    moves = house.moves()
    behind = {}
    for state in house.states():
        behind[state] = [move.done(house, state) for move in moves]
    return behind


def turned_round(behind):
    ahead = {}
    for state in behind:
        ahead[state] = []
    for state in behind:
        for other in behind[state]:
            ahead[other].append(state)
    return ahead


def gather(ways, start, rest, gathered):
    # Goes as deep as it can, and gathers a state when all that it leads to is gathered
    # or still under way. The dict of what is left to be looked at of each state also
    # tells which states were come by, in this walk or in an earlier one.
    rest[start] = list(ways[start])
    trail = [start]
    while trail:
        left = rest[trail[-1]]
        if left:
            state = left.pop()
            if state not in rest:
                rest[state] = list(ways[state])
                trail.append(state)
        else:
            gathered.append(trail.pop())


def knots(house):
    behind = states_behind(house)
    rest = {}
    gathered = []
    for state in behind:
        if state not in rest:
            gather(behind, state, rest, gathered)
    # From the state gathered last, the ways turned round lead just to the states tied
    # to it: any other that leads to it would have been gathered later still. With
    # these set aside, the same holds of the last one left, and so on.
    ahead = turned_round(behind)
    rest = {}
    found = []
    for state in reversed(gathered):
        if state not in rest:
            knot = []
            gather(ahead, state, rest, knot)
            found.append(sorted(knot))
    return sorted(found)
