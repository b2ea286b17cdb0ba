import inspect
import math
import sys
import unittest

import kinds
from jughouse.errors import BadState
from jughouse.fewest import fewest
from jughouse.goals import Some
from jughouse.houses import House
from jughouse.reach import knots, measured, reached, tied
from walks import all_states, distances, edges, knots_of, small_houses, turned

# Of 2000 states each; from the empty jugs of the first all of them are reached.
LARGE = [[1, 1, 9, 49], [39, 49], [9, 9, 19], [3, 3, 4, 24]]


class Reached(unittest.TestCase):
    def test_written_out(self):
        self.assertEqual(reached(House([2], True), (1,)), [(0,), (1,), (2,)])
        self.assertEqual(reached(House([2], True), (0,)), [(0,), (2,)])
        self.assertEqual(reached(House([1, 2], False), (1, 1)), [(0, 2), (1, 1)])
        self.assertEqual(reached(House([2, 1], False), (2, 0)), [(1, 1), (2, 0)])

    def test_without_any_move_the_state_alone(self):
        for size in [1, 7, 60]:
            house = House([size], False)
            for state in house.states():
                self.assertEqual(reached(house, state), [state])

    def test_against_a_walk_from_each_state(self):
        for sizes, tap in small_houses():
            house = House(sizes, tap)
            graph = edges(sizes, tap)
            for state in graph:
                self.assertEqual(reached(house, state), sorted(distances(graph, state)), (sizes, tap, state))

    def test_all_of_2000_states(self):
        house = House([1, 1, 9, 49], True)
        for state in [(0, 0, 0, 0), (1, 1, 9, 49), (1, 0, 5, 25)]:
            self.assertEqual(reached(house, state), all_states([1, 1, 9, 49]))

    def test_large_houses(self):
        for sizes in LARGE:
            for tap in [True, False]:
                house = House(sizes, tap)
                graph = edges(sizes, tap)
                for state in [house.empty(), tuple(sizes), tuple(size // 2 for size in sizes)]:
                    self.assertEqual(reached(house, state), sorted(distances(graph, state)), (sizes, tap, state))

    def test_kinds(self):
        told = reached(House([3, 5], True), (0, 0))
        self.assertIs(type(told), list)
        self.assertTrue(all(type(state) is tuple for state in told))


class Measured(unittest.TestCase):
    def test_written_out(self):
        self.assertEqual(measured(House([3, 5], True), (0, 0)), [0, 1, 2, 3, 4, 5])
        self.assertEqual(measured(House([6, 4], True), (0, 0)), [0, 2, 4, 6])
        self.assertEqual(measured(House([6, 4], True), (1, 0)), [0, 1, 2, 3, 4, 5, 6])
        self.assertEqual(measured(House([8, 5, 3], False), (8, 0, 0)), list(range(9)))
        self.assertEqual(measured(House([8, 5, 3], False), (0, 0, 0)), [0])
        self.assertEqual(measured(House([10, 6, 4], False), (10, 0, 0)), [0, 2, 4, 6, 8, 10])

    def test_one_jug(self):
        self.assertEqual(measured(House([7], False), (4,)), [4])
        self.assertEqual(measured(House([7], True), (4,)), [0, 4, 7])
        self.assertEqual(measured(House([60], True), (0,)), [0, 60])

    def test_against_a_walk_from_each_state(self):
        for sizes, tap in small_houses():
            house = House(sizes, tap)
            graph = edges(sizes, tap)
            for state in graph:
                expected = sorted({many for other in distances(graph, state) for many in other})
                self.assertEqual(measured(house, state), expected, (sizes, tap, state))

    def test_two_jugs_with_a_tap_from_empty_jugs(self):
        pairs = [(one, other) for one in range(1, 13) for other in range(1, 13)]
        for one, other in pairs + [(60, 31), (31, 60), (60, 30), (39, 49), (48, 36), (60, 1), (1, 60), (40, 40)]:
            common = math.gcd(one, other)
            expected = [many for many in range(max(one, other) + 1) if many % common == 0]
            self.assertEqual(measured(House([one, other], True), (0, 0)), expected, (one, other))

    def test_large_houses(self):
        self.assertEqual(measured(House([1, 1, 9, 49], True), (0, 0, 0, 0)), list(range(50)))
        self.assertEqual(measured(House([9, 9, 19], False), (0, 0, 18)), [0, 9, 18])

    def test_kinds(self):
        told = measured(House([3, 5], True), (0, 0))
        self.assertIs(type(told), list)
        self.assertTrue(all(type(many) is int for many in told))


class Tied(unittest.TestCase):
    def test_written_out(self):
        house = House([3, 5], True)
        self.assertIs(tied(house, (0, 0), (3, 4)), True)
        self.assertIs(tied(house, (3, 4), (0, 0)), True)
        self.assertIs(tied(house, (1, 1), (0, 0)), False)
        self.assertIs(tied(house, (0, 0), (1, 1)), False)
        self.assertIs(tied(house, (1, 1), (2, 2)), False)
        self.assertIs(tied(House([3, 5], False), (0, 3), (3, 0)), True)
        self.assertIs(tied(House([3, 5], False), (0, 0), (3, 0)), False)

    def test_each_state_is_tied_to_itself(self):
        for sizes, tap in small_houses() + [([60], False)]:
            house = House(sizes, tap)
            for state in all_states(sizes)[::3]:
                self.assertIs(tied(house, state, state), True)

    def test_against_walks_from_both(self):
        for sizes, tap in [([4], True), ([4], False), ([3, 5], True), ([2, 4], False), ([2, 1, 3], False),
                           ([2, 1, 2], True), ([1, 2, 1, 2], False), ([1, 1, 1, 1], True)]:
            house = House(sizes, tap)
            graph = edges(sizes, tap)
            leads = {state: distances(graph, state) for state in graph}
            for one in graph:
                for other in graph:
                    expected = other in leads[one] and one in leads[other]
                    self.assertIs(tied(house, one, other), expected, (sizes, tap, one, other))

    def test_a_large_house(self):
        house = House([1, 1, 9, 49], True)
        self.assertIs(tied(house, (0, 0, 0, 0), (1, 0, 5, 25)), True)
        self.assertIs(tied(House([39, 49], True), (1, 1), (0, 0)), False)


class Knots(unittest.TestCase):
    def test_written_out(self):
        self.assertEqual(knots(House([2], False)), [[(0,)], [(1,)], [(2,)]])
        self.assertEqual(knots(House([2], True)), [[(0,), (2,)], [(1,)]])
        self.assertEqual(
            knots(House([1, 2], False)), [[(0, 0)], [(0, 1), (1, 0)], [(0, 2), (1, 1)], [(1, 2)]],
        )
        self.assertEqual(knots(House([1, 1], True)), [[(0, 0), (0, 1), (1, 0), (1, 1)]])

    def test_a_way_there_alone_ties_nothing(self):
        self.assertEqual(
            knots(House([2, 2], False)),
            [[(0, 0)], [(0, 1), (1, 0)], [(0, 2), (2, 0)], [(1, 1)], [(1, 2), (2, 1)], [(2, 2)]],
        )

    def test_against_walks_from_each_state(self):
        for sizes, tap in small_houses():
            self.assertEqual(knots(House(sizes, tap)), knots_of(edges(sizes, tap)), (sizes, tap))

    def test_large_houses(self):
        for sizes, tap in [([1, 1, 9, 49], True), ([1, 1, 9, 49], False), ([39, 49], True), ([39, 49], False),
                           ([9, 9, 19], False), ([3, 3, 4, 24], False), ([31, 60], True)]:
            with self.subTest(sizes=sizes, tap=tap):
                self.assertEqual(knots(House(sizes, tap)), knots_of(edges(sizes, tap)))

    def test_each_state_in_just_one(self):
        for sizes, tap in [([8, 5, 3], True), ([8, 5, 3], False), ([24, 19, 3], True), ([4, 4, 4, 4], False)]:
            told = knots(House(sizes, tap))
            self.assertEqual(sorted(state for knot in told for state in knot), all_states(sizes))

    def test_tied_just_if_in_one(self):
        house = House([2, 3, 1], False)
        place = {state: number for number, knot in enumerate(knots(house)) for state in knot}
        for one in place:
            for other in place:
                self.assertIs(tied(house, one, other), place[one] == place[other])

    def test_kinds(self):
        told = knots(House([3, 5], True))
        self.assertIs(type(told), list)
        self.assertTrue(all(type(knot) is list for knot in told))
        self.assertTrue(all(type(state) is tuple for knot in told for state in knot))


class Deep(unittest.TestCase):
    """A way may lead through many hundreds of states, so no walk may hang on how deep calls may go."""

    def setUp(self):
        self.addCleanup(sys.setrecursionlimit, sys.getrecursionlimit())
        sys.setrecursionlimit(len(inspect.stack()) + 80)

    def test_with_few_calls_left(self):
        for sizes in LARGE:
            house = House(sizes, True)
            reached(house, house.empty())
            measured(house, house.empty())
            self.assertIs(tied(house, house.empty(), tuple(sizes)), True)
            knots(house)
            fewest(house, house.empty(), Some(240))
            fewest(house, house.empty(), Some(max(sizes)))

    def test_the_limit_is_low_enough_to_tell(self):
        def down(many):
            return 0 if many == 0 else down(many - 1)

        with self.assertRaises(RecursionError):
            down(150)


class Refused(unittest.TestCase):
    houses = [House([3], True), House([3], False), House([3, 5], True), House([2, 2, 2], False), House([1, 2, 3, 4], True)]

    def test_no_state(self):
        for house in self.houses:
            for place, wrong in enumerate(kinds.no_states(house)):
                with self.subTest(place):
                    with self.assertRaises(BadState):
                        reached(house, wrong)
                    with self.assertRaises(BadState):
                        measured(house, wrong)
                    for right in [house.empty(), tuple(house.sizes())]:
                        with self.assertRaises(BadState):
                            tied(house, wrong, right)
                        with self.assertRaises(BadState):
                            tied(house, right, wrong)
                    with self.assertRaises(BadState):
                        tied(house, wrong, wrong)

    def test_the_other_is_refused_also_where_it_could_not_be_reached(self):
        with self.assertRaises(BadState):
            tied(House([3, 5], False), (1, 1), (3, 6))
        with self.assertRaises(BadState):
            tied(House([3], False), (1,), (True,))

    def test_true_and_false_are_no_amounts(self):
        house = House([3, 5], True)
        for state in [(True, 0), (0, False), (False, False)]:
            for ask in [lambda: reached(house, state), lambda: measured(house, state),
                        lambda: tied(house, state, (0, 0)), lambda: tied(house, (0, 0), state)]:
                with self.assertRaises(BadState):
                    ask()


class ToldIsNew(unittest.TestCase):
    def test_told_lists_may_be_changed(self):
        house = House([3, 5], True)
        asks = [lambda: reached(house, (1, 1)), lambda: measured(house, (1, 1)), lambda: knots(house)]
        for ask in asks:
            expected = ask()
            told = ask()
            told.reverse()
            told.pop()
            told.append("x")
            self.assertEqual(ask(), expected)

    def test_the_lists_in_knots_may_be_changed(self):
        house = House([3, 5], False)
        expected = knots(house)
        told = knots(house)
        for knot in told:
            knot.clear()
        self.assertEqual(knots(house), expected)

    def test_no_two_knots_are_one_list(self):
        told = knots(House([3, 5], False))
        self.assertEqual(len({id(knot) for knot in told}), len(told))

    def test_what_is_handed_in_stays(self):
        house = House([3, 5], True)
        state = (1, 2)
        reached(house, state)
        measured(house, state)
        tied(house, state, (0, 0))
        knots(house)
        self.assertEqual(state, (1, 2))
        self.assertEqual((house.sizes(), house.tap), ([3, 5], True))
        self.assertEqual(len(house.states()), 24)
        self.assertEqual(len(house.moves()), 6)


class Graphs(unittest.TestCase):
    """The tests' own walks, held against a few houses reckoned by hand."""

    def test_edges(self):
        graph = edges([1, 2], True)
        self.assertEqual(graph[(1, 1)], {(0, 2), (1, 1), (1, 2), (0, 1), (1, 0)})
        self.assertIn((1, 1), turned(graph)[(0, 2)])

    def test_distances(self):
        self.assertEqual(
            distances(edges([1, 2], False), (0, 2)), {(0, 2): 0, (1, 1): 1},
        )
        self.assertEqual(distances(edges([3, 5], True), (0, 0))[(3, 4)], 6)


if __name__ == "__main__":
    unittest.main()
