"""Values of every kind, to be handed in where a refusal is told."""

from decimal import Decimal
from fractions import Fraction

from jughouse.fewest import Answer, Barred, Poured
from jughouse.goals import Goal, Holds, Some, Sum, Whole
from jughouse.houses import House
from jughouse.moves import Fill, Pour
from walks import with_jug

HUGE = 10 ** 5000


class Prickly:
    """Fails at whatever is asked of it, but for its class."""

    def refuse(self, *args):
        raise RuntimeError("asked of a value that is no number, text or list")

    __eq__ = __ne__ = __lt__ = __le__ = __gt__ = __ge__ = refuse
    __hash__ = __bool__ = __len__ = __iter__ = __getitem__ = __contains__ = refuse
    __int__ = __index__ = __add__ = __radd__ = __repr__ = __str__ = refuse


class LikeANumber:
    def __index__(self):
        return 1

    __int__ = __index__


class LikeAGoal:
    """Has what a goal has, and is none."""

    def come(self, house, state):
        return True


def no_containers():
    return [
        None, True, False, 0.0, 1.0, 1.5, float("nan"), float("inf"), 1j, Fraction(1), Decimal(1),
        "", "0", "1", "pour 0 1", b"", b"1", bytearray(b"1"), object(), Prickly(), LikeANumber(), LikeAGoal(),
        int, House, Pour, Holds, Goal, len, lambda: 1, NotImplemented, ...,
        (number for number in [1, 2]), iter([1, 2]), range(2), {}, {0: 1}, {1, 2}, frozenset([1]),
        ValueError("x"), Answer(), Poured([], []), Barred([]),
    ]


def own_things():
    return [House([3, 5], True), Pour(0, 1), Fill(0), Holds(0, 1), Some(1), Sum([0], 1), Whole((1,))]


def no_numbers():
    own = [1]
    own.append(own)
    return no_containers() + own_things() + [[], [0], [1], own, (), (0,), (1,)]


def no_lists():
    return no_containers() + own_things() + [0, 1, 3, -1, HUGE, -HUGE, (), (0,), (1,), (3, 5), (Pour(0, 1),)]


def no_tuples():
    own = []
    own.append(own)
    return no_containers() + own_things() + [0, 1, -1, HUGE, -HUGE, [], [0], [0, 0], own]


def no_states(house):
    """What is no state of the house, whatever its kind."""
    empty = house.empty()
    full = tuple(house.sizes())
    wrongs = no_tuples() + [list(empty), (), empty + (0,), empty[1:], empty + full, (empty,)]
    for jug, size in enumerate(full):
        wrongs.extend(with_jug(empty, jug, many) for many in [-1, size + 1, HUGE, -HUGE])
        wrongs.extend(with_jug(empty, jug, wrong) for wrong in no_numbers())
    return wrongs


def no_lists_of_moves():
    others = no_containers() + [0, HUGE, [], [Pour(0, 1)], (), House([3, 5], True), Holds(0, 1)]
    wrongs = no_lists()
    for other in others:
        wrongs.extend([[other], [Pour(0, 1), other], [other, Fill(0)]])
    return wrongs + [[Pour], [Fill, Pour(0, 1)]]


def no_goals():
    """What is no goal, whatever its kind."""
    goals = [Holds(0, 1), Some(1)]
    return no_containers() + [0, HUGE, House([3, 5], True), Pour(0, 1), [], (), (0, 0), goals, tuple(goals)] + [
        [], [0, 1], Goal(), Sum, Whole, Some,
    ]


def no_texts():
    """What is no text, whatever its kind."""
    plain = [value for value in no_containers() if not isinstance(value, str)]
    return plain + own_things() + [0, 1, HUGE, -HUGE, [], (), ["jugs", "3"], ("fill 0",), ["fill 0"], [Fill(0)]]
