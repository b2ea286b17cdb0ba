import itertools
import unittest

import kinds
from jughouse.errors import BadGoal, BadState
from jughouse.goals import Goal, Holds, Some, Sum, Whole
from jughouse.houses import House
from walks import all_states, made, meets, small_houses, some_goals, with_jug


class Classes(unittest.TestCase):
    def test_sorts_stand_straight_under_goal(self):
        for sort in [Holds, Some, Sum, Whole]:
            self.assertEqual(sort.__bases__, (Goal,))


class Come(unittest.TestCase):
    def test_holds(self):
        house = House([3, 5], True)
        self.assertIs(Holds(1, 4).come(house, (0, 4)), True)
        self.assertIs(Holds(1, 4).come(house, (3, 4)), True)
        self.assertIs(Holds(0, 4).come(house, (0, 4)), False)
        self.assertIs(Holds(1, 4).come(house, (3, 5)), False)
        self.assertIs(Holds(0, 0).come(house, (0, 4)), True)
        self.assertIs(Holds(0, 0).come(house, (1, 0)), False)

    def test_some(self):
        house = House([8, 5, 3], False)
        for state in [(4, 0, 0), (0, 4, 1), (8, 4, 3)]:
            self.assertIs(Some(4).come(house, state), True)
        for state in [(0, 0, 0), (3, 1, 0), (8, 5, 3)]:
            self.assertIs(Some(4).come(house, state), False)
        self.assertIs(Some(0).come(house, (8, 5, 0)), True)
        self.assertIs(Some(0).come(house, (8, 5, 3)), False)

    def test_some_in_the_last_of_four(self):
        house = House([1, 1, 1, 9], True)
        self.assertIs(Some(7).come(house, (0, 0, 0, 7)), True)
        self.assertIs(Some(7).come(house, (1, 1, 1, 6)), False)

    def test_sum(self):
        house = House([8, 5, 3], True)
        self.assertIs(Sum([0, 2], 6).come(house, (4, 5, 2)), True)
        self.assertIs(Sum([0, 2], 6).come(house, (6, 5, 1)), False)
        self.assertIs(Sum([0, 2], 11).come(house, (4, 5, 2)), False)

    def test_sum_of_one_jug(self):
        house = House([8, 5, 3], True)
        for jug in range(3):
            for state in [(4, 5, 2), (0, 0, 0), (8, 5, 3)]:
                for many in range(10):
                    self.assertIs(Sum([jug], many).come(house, state), state[jug] == many)

    def test_sum_of_all_jugs_in_any_order(self):
        house = House([1, 2, 3, 4], True)
        for jugs in itertools.permutations(range(4)):
            self.assertIs(Sum(list(jugs), 7).come(house, (1, 0, 2, 4)), True)
            self.assertIs(Sum(list(jugs), 6).come(house, (1, 0, 2, 4)), False)
            self.assertIs(Sum(list(jugs), 10).come(house, (1, 2, 3, 4)), True)
            self.assertIs(Sum(list(jugs), 0).come(house, (0, 0, 0, 0)), True)

    def test_sum_of_a_few_in_any_order(self):
        house = House([1, 2, 3, 4], False)
        state = (1, 0, 2, 4)
        for long in [1, 2, 3]:
            for jugs in itertools.permutations(range(4), long):
                together = sum(state[jug] for jug in jugs)
                for many in range(9):
                    self.assertIs(Sum(list(jugs), many).come(house, state), together == many)

    def test_whole(self):
        house = House([3, 5], True)
        self.assertIs(Whole((3, 4)).come(house, (3, 4)), True)
        for state in [(3, 5), (2, 4), (0, 0)]:
            self.assertIs(Whole((3, 4)).come(house, state), False)
        self.assertIs(Whole((1, 3)).come(house, (3, 1)), False)

    def test_whole_of_one_to_four_numbers(self):
        for state in [(0,), (60,), (7, 7), (1, 2, 3), (0, 0, 0, 0), (4, 4, 4, 4)]:
            house = House([max(many, 1) for many in state], False)
            self.assertIs(Whole(state).come(house, state), True)
            other = with_jug(state, len(state) - 1, 1 if state[-1] == 0 else 0)
            self.assertIs(Whole(state).come(house, other), False)

    def test_each_goal_of_each_state(self):
        for sizes, tap in small_houses():
            house = House(sizes, tap)
            for goal in some_goals(sizes):
                asked = made(goal)
                for state in all_states(sizes):
                    self.assertIs(asked.come(house, state), meets(state, goal), (sizes, goal, state))

    def test_one_goal_asked_of_several_houses(self):
        goal = Sum([1, 0], 8)
        self.assertIs(goal.come(House([3, 5], True), (3, 5)), True)
        self.assertIs(goal.come(House([8, 8, 8], False), (3, 4, 1)), False)
        self.assertIs(goal.come(House([3, 5], True), (3, 5)), True)


class MoreThanAJugCanHold(unittest.TestCase):
    def test_no_state_does(self):
        for sizes, tap in small_houses():
            house = House(sizes, tap)
            for state in all_states(sizes):
                for many in [max(sizes) + 1, 60, 61, 239, 240]:
                    self.assertIs(Some(many).come(house, state), False)
                    for jug in range(len(sizes)):
                        self.assertIs(Holds(jug, many).come(house, state), False)
                for many in [sum(sizes) + 1, 240]:
                    self.assertIs(Sum(list(range(len(sizes))), many).come(house, state), False)

    def test_just_more(self):
        self.assertIs(Holds(0, 4).come(House([3, 5], True), (3, 4)), False)
        self.assertIs(Sum([0], 4).come(House([3, 5], True), (3, 4)), False)


class NoGoal(unittest.TestCase):
    def test_jugs_from_0_to_3(self):
        for jug in range(4):
            Holds(jug, 1)
            Sum([jug], 1)
        for wrong in [-1, -4, 4, 5, 60, kinds.HUGE, -kinds.HUGE]:
            for make in [lambda: Holds(wrong, 1), lambda: Sum([wrong], 1), lambda: Sum([0, wrong], 1)]:
                with self.assertRaises(BadGoal):
                    make()

    def test_amounts_from_0_to_240(self):
        for many in range(241):
            Holds(0, many)
            Some(many)
            Sum([0], many)
        for wrong in [-1, -240, 241, 242, 1000, kinds.HUGE, -kinds.HUGE]:
            for make in [lambda: Holds(0, wrong), lambda: Some(wrong), lambda: Sum([0, 1, 2, 3], wrong)]:
                with self.assertRaises(BadGoal):
                    make()

    def test_jugs_and_amounts_that_are_no_numbers(self):
        for place, wrong in enumerate(kinds.no_numbers()):
            makes = [
                lambda: Holds(wrong, 0), lambda: Holds(0, wrong), lambda: Holds(wrong, wrong), lambda: Some(wrong),
                lambda: Sum([wrong], 0), lambda: Sum([wrong, 1], 0), lambda: Sum([2, 1, wrong], 0),
                lambda: Sum([wrong, wrong], 0), lambda: Sum([0], wrong), lambda: Sum([wrong], wrong),
            ]
            for number, make in enumerate(makes):
                with self.subTest(place=place, number=number), self.assertRaises(BadGoal):
                    make()

    def test_true_and_false_are_no_numbers(self):
        for wrong in [True, False]:
            makes = [
                lambda: Holds(wrong, 1), lambda: Holds(1, wrong), lambda: Some(wrong), lambda: Sum([wrong], 1),
                lambda: Sum([2, wrong], 1), lambda: Sum([0], wrong), lambda: Whole((wrong,)), lambda: Whole((3, wrong)),
            ]
            for number, make in enumerate(makes):
                with self.subTest(wrong=wrong, number=number), self.assertRaises(BadGoal):
                    make()

    def test_jugs_of_a_sum_that_are_no_list(self):
        for place, wrong in enumerate(kinds.no_lists() + [(0, 1), {0, 1}, range(1), "01"]):
            with self.subTest(place), self.assertRaises(BadGoal):
                Sum(wrong, 1)

    def test_one_jug_at_least(self):
        for many in [0, 1, 240]:
            with self.assertRaises(BadGoal):
                Sum([], many)

    def test_different_jugs(self):
        for jugs in [[0, 0], [3, 3], [0, 1, 0], [1, 0, 0], [0, 1, 2, 3, 0], [0, 1, 2, 2], [0] * 1000]:
            with self.subTest(jugs[:5]), self.assertRaises(BadGoal):
                Sum(jugs, 0)

    def test_whole_of_1_to_4_numbers_from_0_to_60(self):
        for state in [(0,), (60,), (0, 60), (60, 60, 60), (0, 0, 0, 0), (60, 60, 60, 60)]:
            Whole(state)
        for wrong in [(), (0,) * 5, (0,) * 1000, (-1,), (61,), (0, 61), (0, 0, -1), (0, 0, 0, 61), (240,),
                      (kinds.HUGE,), (0, -kinds.HUGE)]:
            with self.assertRaises(BadGoal):
                Whole(wrong)

    def test_whole_of_other_kinds(self):
        for place, wrong in enumerate(kinds.no_tuples()):
            with self.subTest(place), self.assertRaises(BadGoal):
                Whole(wrong)
        for place, wrong in enumerate(kinds.no_numbers()):
            for state in [(wrong,), (wrong, 0), (0, wrong), (0, 0, 0, wrong)]:
                with self.subTest(place), self.assertRaises(BadGoal):
                    Whole(state)


def goals_not_of(sizes):
    """Goals with a jug that a house of these sizes hasn't, or with no state of it."""
    goals = [Whole((0,) * many) for many in [1, 2, 3, 4] if many != len(sizes)]
    for jug in range(len(sizes), 4):
        goals += [Holds(jug, 0), Holds(jug, 240), Sum([jug], 0), Sum([0, jug], 240), Sum([jug, 0], 0)]
    for jug, size in enumerate(sizes):
        for many in {size + 1, 60} - {size}:
            goals.append(Whole(with_jug(tuple(sizes), jug, many)))
    return goals


class ComeRefused(unittest.TestCase):
    houses = [House(sizes, tap) for sizes in [[3], [59], [3, 5], [2, 2, 2], [1, 2, 3, 4]] for tap in [True, False]]

    def test_goals_that_are_not_of_the_house(self):
        for house in self.houses:
            for place, goal in enumerate(goals_not_of(house.sizes())):
                for state in [house.empty(), tuple(house.sizes())]:
                    with self.subTest(place), self.assertRaises(BadGoal):
                        goal.come(house, state)

    def test_a_jug_that_the_house_has_not_behind_one_that_it_has(self):
        house = House([3, 5], True)
        for jugs in [[0, 2], [2, 0], [0, 1, 3], [3, 1, 0], [0, 1, 2, 3]]:
            with self.assertRaises(BadGoal):
                Sum(jugs, 0).come(house, (0, 0))

    def test_some_is_asked_of_any_house(self):
        for house in self.houses:
            self.assertIs(Some(0).come(house, house.empty()), True)
            self.assertIs(Some(240).come(house, house.empty()), False)

    def test_no_state(self):
        for house in self.houses:
            goals = [Holds(0, 0), Some(0), Sum([0], 0), Whole(house.empty())]
            for place, wrong in enumerate(kinds.no_states(house)):
                for goal in goals:
                    with self.subTest(place), self.assertRaises(BadState):
                        goal.come(house, wrong)

    def test_bad_state_comes_ahead_of_bad_goal(self):
        for house in [House([3, 5], True), House([2, 2, 2], False)]:
            for place, wrong in enumerate(kinds.no_states(house)):
                for goal in goals_not_of(house.sizes()):
                    with self.subTest(place), self.assertRaises(BadState):
                        goal.come(house, wrong)

    def test_a_state_beyond_the_house_that_is_the_goals(self):
        with self.assertRaises(BadState):
            Whole((4, 0)).come(House([3, 5], True), (4, 0))

    def test_a_goal_that_is_none_of_the_sorts(self):
        with self.assertRaises(BadGoal):
            Goal().come(House([3, 5], True), (0, 0))
        with self.assertRaises(BadState):
            Goal().come(House([3, 5], True), (0, 6))


class NothingKept(unittest.TestCase):
    def test_the_list_handed_in_stays(self):
        jugs = [2, 0]
        goal = Sum(jugs, 3)
        goal.come(House([3, 5, 4], True), (1, 1, 2))
        self.assertEqual(jugs, [2, 0])

    def test_a_list_refused_stays(self):
        for jugs in [[3, 1, 1], [2, 4, 0], [1, "x"], [True]]:
            kept = list(jugs)
            with self.assertRaises(BadGoal):
                Sum(jugs, 3)
            self.assertEqual(jugs, kept)

    def test_the_list_handed_in_may_be_changed_behind(self):
        house = House([3, 5], True)
        jugs = [0]
        goal = Sum(jugs, 3)
        jugs.append(1)
        self.assertIs(goal.come(house, (3, 5)), True)
        self.assertIs(goal.come(house, (0, 3)), False)
        jugs.clear()
        self.assertIs(goal.come(house, (3, 5)), True)
        jugs.extend([3, "x"])
        self.assertIs(goal.come(house, (3, 0)), True)

    def test_states_and_houses_stay(self):
        house = House([3, 5], True)
        state = (3, 4)
        for goal in [Holds(0, 3), Some(4), Sum([1, 0], 7), Whole(state)]:
            self.assertIs(goal.come(house, state), True)
            self.assertIs(goal.come(house, state), True)
        self.assertEqual(state, (3, 4))
        self.assertEqual((house.sizes(), house.tap), ([3, 5], True))


if __name__ == "__main__":
    unittest.main()
