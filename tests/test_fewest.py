import itertools
import unittest

import kinds
from jughouse.errors import BadGoal, BadState
from jughouse.fewest import Answer, Barred, Poured, fewest
from jughouse.goals import Goal, Holds, Some, Sum, Whole
from jughouse.houses import House
from jughouse.moves import Empty, Fill, Move, Pour, done_all
from walks import all_moves, all_states, behind, distances, edges, made, meets, shown, small_houses, some_goals


class Held(unittest.TestCase):
    """Holds an answer against all that is said of it."""

    def hold(self, sizes, tap, state, goal, graph=None, away=None):
        answer = fewest(House(list(sizes), tap), state, made(goal))
        graph = graph or edges(sizes, tap)
        away = away or distances(graph, state)
        steps = [away[other] for other in away if meets(other, goal)]
        if steps:
            self.hold_poured(sizes, tap, state, goal, answer, graph)
            self.assertEqual(len(answer.pours), min(steps))
        else:
            self.hold_barred(state, goal, answer, graph)
        return answer

    def hold_poured(self, sizes, tap, state, goal, answer, graph):
        self.assertIs(type(answer), Poured)
        self.assertFalse(hasattr(answer, "among"))
        self.assertIs(type(answer.pours), list)
        here = state
        for move in answer.pours:
            self.assertIn(shown(move), all_moves(sizes, tap))
            here = behind(sizes, here, shown(move))
        self.assertTrue(meets(here, goal))
        self.assertIs(type(answer.heights), list)
        self.assertTrue(all(type(pair) is tuple and len(pair) == 2 for pair in answer.heights))
        self.assertTrue(all(type(told) is tuple for told, height in answer.heights))
        self.assertTrue(all(type(height) is int and height >= 0 for told, height in answer.heights))
        heights = dict(answer.heights)
        self.assertEqual(len(heights), len(answer.heights))
        self.assertEqual(heights[state], 0)
        for told, height in answer.heights:
            self.assertTrue(all(heights[other] <= height + 1 for other in graph[told]))
            self.assertTrue(not meets(told, goal) or height >= len(answer.pours))

    def hold_barred(self, state, goal, answer, graph):
        self.assertIs(type(answer), Barred)
        self.assertFalse(hasattr(answer, "pours"))
        self.assertFalse(hasattr(answer, "heights"))
        self.assertIs(type(answer.among), list)
        self.assertTrue(all(type(told) is tuple for told in answer.among))
        among = set(answer.among)
        self.assertEqual(len(among), len(answer.among))
        self.assertIn(state, among)
        self.assertFalse(any(meets(told, goal) for told in among))
        self.assertTrue(all(graph[told] <= among for told in among))


class Answers(Held):
    def test_each_goal_from_each_state_of_small_houses(self):
        for sizes in [[1], [4], [1, 1], [2, 3], [2, 2], [2, 1, 2], [1, 1, 1, 1]]:
            for tap in [True, False]:
                graph = edges(sizes, tap)
                for state in graph:
                    away = distances(graph, state)
                    for goal in some_goals(sizes):
                        self.hold(sizes, tap, state, goal, graph, away)

    def test_goals_from_a_few_states(self):
        houses = small_houses() + [([8, 5, 3], False), ([8, 5, 3], True), ([4, 3, 2, 1], False), ([5, 4, 3, 2], True)]
        for sizes, tap in houses:
            graph = edges(sizes, tap)
            for state in {(0,) * len(sizes), tuple(sizes), tuple(size // 2 for size in sizes)}:
                away = distances(graph, state)
                for goal in some_goals(sizes)[::7]:
                    self.hold(sizes, tap, state, goal, graph, away)

    def test_four_of_five_and_three(self):
        answer = self.hold([3, 5], True, (0, 0), ("some", 4))
        self.assertEqual(len(answer.pours), 6)
        self.assertEqual(done_all(answer.pours, House([3, 5], True), (0, 0)), (3, 4))

    def test_eight_shared_out_in_halves(self):
        answer = self.hold([8, 5, 3], False, (8, 0, 0), ("whole", (4, 4, 0)))
        self.assertEqual(len(answer.pours), 7)
        self.assertTrue(all(type(move) is Pour for move in answer.pours))

    def test_moves_of_every_sort(self):
        self.assertEqual([shown(move) for move in self.hold([7], True, (3,), ("holds", 0, 7)).pours], [("fill", 0)])
        self.assertEqual([shown(move) for move in self.hold([7], True, (3,), ("some", 0)).pours], [("empty", 0)])
        self.assertEqual(
            [shown(move) for move in self.hold([7, 3], True, (7, 0), ("holds", 0, 4)).pours], [("pour", 0, 1)],
        )

    def test_barred(self):
        self.assertIs(type(self.hold([6, 4], True, (0, 0), ("some", 3))), Barred)
        self.assertIs(type(self.hold([8, 5, 3], False, (8, 0, 0), ("sum", [0, 1, 2], 7))), Barred)
        self.assertIs(type(self.hold([3, 5], True, (0, 0), ("whole", (1, 1)))), Barred)
        self.assertIs(type(self.hold([3, 5], False, (0, 0), ("some", 1))), Barred)

    def test_more_than_a_jug_can_hold(self):
        for many in [4, 60, 61, 240]:
            self.assertIs(type(self.hold([3, 5], True, (0, 0), ("holds", 0, many))), Barred)
        self.assertIs(type(self.hold([3, 5], True, (0, 0), ("some", 6))), Barred)
        self.assertIs(type(self.hold([3, 5], True, (0, 0), ("sum", [1, 0], 9))), Barred)

    def test_a_state_that_comes_to_the_goal_already(self):
        for sizes, tap in small_houses():
            for state in [(0,) * len(sizes), tuple(sizes), tuple(size // 2 for size in sizes)]:
                goals = [("whole", state), ("some", state[0]), ("holds", 0, state[0])]
                for goal in goals + [("sum", list(range(len(sizes))), sum(state))]:
                    answer = self.hold(sizes, tap, state, goal)
                    self.assertEqual(answer.pours, [])
                    self.assertIn((state, 0), answer.heights)

    def test_a_house_without_any_move(self):
        for size in [1, 5, 60]:
            for many in [0, 1, size]:
                answer = self.hold([size], False, (many,), ("holds", 0, many))
                self.assertEqual((answer.pours, answer.heights), ([], [((many,), 0)]))
                answer = self.hold([size], False, (many,), ("holds", 0, 61))
                self.assertEqual(answer.among, [(many,)])

    def test_a_sum_in_any_order(self):
        for jugs in itertools.permutations(range(3)):
            self.hold([4, 3, 2], True, (0, 0, 0), ("sum", list(jugs), 8))
        for jugs in itertools.permutations(range(4)):
            self.hold([2, 1, 3, 2], True, (0, 0, 0, 0), ("sum", list(jugs), 7))

    def test_houses_with_2000_states(self):
        graph = edges([1, 1, 9, 49], True)
        for goal in [("some", 25), ("sum", [3, 2, 1, 0], 31), ("whole", (1, 0, 5, 25)), ("holds", 2, 0)]:
            answer = self.hold([1, 1, 9, 49], True, (0, 0, 0, 0), goal, graph)
            self.assertIs(type(answer), Poured)
        answer = self.hold([1, 1, 9, 49], True, (0, 0, 0, 0), ("some", 50), graph)
        self.assertEqual(sorted(answer.among), all_states([1, 1, 9, 49]))
        for sizes, goal in [([39, 49], ("some", 20)), ([9, 9, 19], ("some", 11)), ([3, 3, 4, 24], ("some", 13))]:
            for tap in [True, False]:
                self.hold(sizes, tap, (0,) * len(sizes), goal)
                self.hold(sizes, tap, tuple(sizes), goal)

    def test_long_ways(self):
        for sizes in [[60, 31], [59, 31], [49, 39]]:
            graph = edges(sizes, True)
            away = distances(graph, (0, 0))
            farthest = max(away, key=lambda state: away[state])
            answer = self.hold(sizes, True, (0, 0), ("whole", farthest), graph)
            self.assertEqual(len(answer.pours), away[farthest])
            self.assertGreater(len(answer.pours), 80)

    def test_one_or_the_other_is_told(self):
        for sizes, tap in small_houses():
            house = House(sizes, tap)
            for many in range(8):
                answer = fewest(house, house.empty(), Some(many))
                self.assertTrue(isinstance(answer, Poured) != isinstance(answer, Barred))
                self.assertIsInstance(answer, Answer)

    def test_pours_are_moves_of_the_program(self):
        house = House([3, 5], True)
        pours = fewest(house, (0, 0), Holds(1, 4)).pours
        self.assertTrue(all(isinstance(move, Move) for move in pours))
        self.assertEqual({type(move) for move in pours}, {Pour, Fill, Empty})
        self.assertTrue(Holds(1, 4).come(house, done_all(pours, house, (0, 0))))


class Classes(unittest.TestCase):
    def test_straight_under_answer(self):
        for sort in [Poured, Barred]:
            self.assertEqual(sort.__bases__, (Answer,))

    def test_fields(self):
        move = Pour(0, 1)
        answer = Poured([move], [((1, 0), 0), ((0, 1), 1)])
        self.assertEqual(answer.pours, [move])
        self.assertEqual(answer.heights, [((1, 0), 0), ((0, 1), 1)])
        self.assertEqual(Barred([(0, 0), (1, 1)]).among, [(0, 0), (1, 1)])
        self.assertEqual((Poured([], []).pours, Poured([], []).heights, Barred([]).among), ([], [], []))

    def test_lists_handed_in_may_be_changed_behind(self):
        pours, heights, among = [Pour(0, 1)], [((1, 0), 0)], [(0, 0)]
        poured, barred = Poured(pours, heights), Barred(among)
        for handed in [pours, heights, among]:
            self.assertEqual(len(handed), 1)
            handed.append("x")
            handed[0] = "y"
        self.assertEqual([shown(move) for move in poured.pours], [("pour", 0, 1)])
        self.assertEqual(poured.heights, [((1, 0), 0)])
        self.assertEqual(barred.among, [(0, 0)])

    def test_fields_may_be_changed_without_changing_what_was_handed_in(self):
        pours, heights, among = [Pour(0, 1)], [((1, 0), 0)], [(0, 0)]
        poured, barred = Poured(pours, heights), Barred(among)
        for field in [poured.pours, poured.heights, barred.among]:
            field.clear()
        self.assertEqual([len(pours), len(heights), len(among)], [1, 1, 1])


def goals_not_of_three_and_five():
    return [
        Holds(2, 0), Holds(3, 240), Sum([2], 0), Sum([0, 1, 2], 0), Sum([3, 0], 0), Whole((0,)), Whole((0, 0, 0)),
        Whole((4, 0)), Whole((0, 6)), Whole((60, 60)), Whole((0, 0, 0, 0)),
    ]


class Refused(unittest.TestCase):
    def test_no_state(self):
        for house in [House([3], True), House([3], False), House([3, 5], True), House([2, 2, 2], False),
                      House([1, 2, 3, 4], True)]:
            for place, wrong in enumerate(kinds.no_states(house)):
                for goal in [Some(0), Holds(0, 240), Sum([0], 0), Whole(house.empty())]:
                    with self.subTest(place), self.assertRaises(BadState):
                        fewest(house, wrong, goal)

    def test_no_goal(self):
        for house in [House([3], False), House([3, 5], True), House([1, 2, 3, 4], True)]:
            for place, wrong in enumerate(kinds.no_goals()):
                with self.subTest(place), self.assertRaises(BadGoal):
                    fewest(house, house.empty(), wrong)

    def test_goals_that_are_not_of_the_house(self):
        for tap in [True, False]:
            house = House([3, 5], tap)
            for state in [(0, 0), (3, 5), (1, 2)]:
                for place, goal in enumerate(goals_not_of_three_and_five()):
                    with self.subTest(place), self.assertRaises(BadGoal):
                        fewest(house, state, goal)

    def test_bad_state_comes_ahead_of_no_goal(self):
        house = House([3, 5], True)
        for place, wrong in enumerate(kinds.no_states(house)):
            for goal in [None, Goal(), Goal, "some 4", kinds.Prickly(), True]:
                with self.subTest(place), self.assertRaises(BadState):
                    fewest(house, wrong, goal)
        for place, wrong in enumerate(kinds.no_goals()):
            with self.subTest(place), self.assertRaises(BadState):
                fewest(house, (0, 6), wrong)

    def test_bad_state_comes_ahead_of_a_goal_not_of_the_house(self):
        house = House([3, 5], True)
        for place, wrong in enumerate(kinds.no_states(house)):
            for goal in goals_not_of_three_and_five():
                with self.subTest(place), self.assertRaises(BadState):
                    fewest(house, wrong, goal)

    def test_true_and_false_are_no_amounts(self):
        for state in [(True, 0), (0, False), (False, False)]:
            with self.assertRaises(BadState):
                fewest(House([3, 5], True), state, Some(0))


class ToldIsNew(unittest.TestCase):
    def told(self, house, state, goal):
        answer = fewest(house, state, goal)
        if isinstance(answer, Poured):
            return ([shown(move) for move in answer.pours], list(answer.heights))
        return list(answer.among)

    def test_told_lists_may_be_changed(self):
        house = House([3, 5], True)
        for goal in [Some(4), Some(6), Some(0)]:
            expected = self.told(house, (0, 0), goal)
            answer = fewest(house, (0, 0), goal)
            for move in getattr(answer, "pours", []):
                if isinstance(move, Pour):
                    move.one, move.other = 3, 2
                else:
                    move.jug = 3
            for field in list(vars(answer).values()):
                field.reverse()
                field.append("x")
                field.pop(0)
            self.assertEqual(self.told(house, (0, 0), goal), expected)

    def test_what_is_handed_in_stays(self):
        house = House([3, 5], True)
        state = (1, 2)
        jugs = [1, 0]
        goal = Sum(jugs, 7)
        first = self.told(house, state, goal)
        self.assertEqual(self.told(house, state, goal), first)
        self.assertEqual((state, jugs), ((1, 2), [1, 0]))
        self.assertEqual((house.sizes(), house.tap), ([3, 5], True))
        self.assertIs(goal.come(house, (3, 4)), True)
        jugs.append(3)
        self.assertEqual(self.told(house, state, goal), first)


if __name__ == "__main__":
    unittest.main()
