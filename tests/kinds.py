"""Values of every kind, to be handed in where a refusal is told."""

from decimal import Decimal
from fractions import Fraction

from jughouse.houses import House
from jughouse.moves import Fill, Pour

HUGE = 10 ** 5000


class Prickly:
    """Fails at whatever is asked of it, but for its class."""

    def refuse(self, *args):
        raise RuntimeError("asked of a value that is no number, text or list")

    __eq__ = __ne__ = __lt__ = __le__ = __gt__ = __ge__ = refuse
    __hash__ = __bool__ = __len__ = __iter__ = __getitem__ = __contains__ = refuse
    __int__ = __index__ = __add__ = __radd__ = __repr__ = __str__ = refuse


class LikeANumber:
    def __index__(self):
        return 1

    __int__ = __index__


def no_containers():
    return [
        None, True, False, 0.0, 1.0, 1.5, float("nan"), float("inf"), 1j, Fraction(1), Decimal(1),
        "", "0", "1", "pour 0 1", b"", b"1", bytearray(b"1"), object(), Prickly(), LikeANumber(),
        int, House, Pour, len, lambda: 1, NotImplemented, ...,
        (number for number in [1, 2]), iter([1, 2]), range(2), {}, {0: 1}, {1, 2}, frozenset([1]),
    ]


def no_numbers():
    own = [1]
    own.append(own)
    return no_containers() + [[], [0], [1], own, (), (0,), (1,), House([3, 5], True), Pour(0, 1), Fill(0)]


def no_lists():
    return no_containers() + [0, 1, 3, -1, HUGE, -HUGE, (), (1,), (3, 5), House([3, 5], True), Pour(0, 1), (Pour(0, 1),)]


def no_tuples():
    own = []
    own.append(own)
    return no_containers() + [0, 1, -1, HUGE, -HUGE, [], [0], [0, 0], own, House([3, 5], True), Pour(0, 1)]
