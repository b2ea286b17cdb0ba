import unittest

import kinds
from jughouse.errors import BadMove, BadState
from jughouse.houses import House
from jughouse.moves import Empty, Fill, Move, Pour, done_all
from walks import drop_by_drop, with_jug

SMALL = [[1], [5], [3, 5], [2, 2], [4, 1], [4, 3, 2], [1, 1, 5], [2, 1, 3, 2]]


class Classes(unittest.TestCase):
    def test_sorts_stand_straight_under_move(self):
        for sort in [Pour, Fill, Empty]:
            self.assertEqual(sort.__bases__, (Move,))


class Done(unittest.TestCase):
    def test_pour_until_the_one_is_empty(self):
        self.assertEqual(Pour(0, 1).done(House([3, 5], False), (3, 1)), (0, 4))
        self.assertEqual(Pour(1, 0).done(House([3, 5], True), (1, 1)), (2, 0))

    def test_pour_until_the_other_is_full(self):
        self.assertEqual(Pour(0, 1).done(House([3, 5], True), (3, 4)), (2, 5))
        self.assertEqual(Pour(1, 0).done(House([3, 5], False), (0, 5)), (3, 2))

    def test_pour_until_both(self):
        self.assertEqual(Pour(0, 1).done(House([3, 5], False), (3, 2)), (0, 5))

    def test_pour_among_three_and_four(self):
        self.assertEqual(Pour(0, 2).done(House([8, 5, 3], False), (8, 0, 0)), (5, 0, 3))
        self.assertEqual(Pour(3, 1).done(House([2, 3, 4, 5], True), (1, 1, 1, 5)), (1, 3, 1, 3))

    def test_fill_and_empty(self):
        house = House([2, 3, 4, 5], True)
        for jug in range(4):
            self.assertEqual(Fill(jug).done(house, (1, 1, 1, 1)), with_jug((1, 1, 1, 1), jug, jug + 2))
            self.assertEqual(Empty(jug).done(house, (1, 1, 1, 1)), with_jug((1, 1, 1, 1), jug, 0))

    def test_fill_and_empty_the_one_jug(self):
        self.assertEqual(Fill(0).done(House([60], True), (0,)), (60,))
        self.assertEqual(Empty(0).done(House([60], True), (60,)), (0,))
        self.assertEqual(Fill(0).done(House([1], True), (0,)), (1,))

    def test_moves_that_change_nothing(self):
        house = House([3, 5], True)
        self.assertEqual(Pour(0, 1).done(house, (0, 2)), (0, 2))
        self.assertEqual(Pour(0, 1).done(house, (2, 5)), (2, 5))
        self.assertEqual(Pour(0, 1).done(house, (0, 5)), (0, 5))
        self.assertEqual(Fill(1).done(house, (2, 5)), (2, 5))
        self.assertEqual(Empty(0).done(house, (0, 5)), (0, 5))

    def test_each_move_of_each_state(self):
        for sizes in SMALL:
            house = House(sizes, True)
            dry = House(sizes, False)
            jugs = range(len(sizes))
            for state in house.states():
                for one in jugs:
                    self.assertEqual(Fill(one).done(house, state), with_jug(state, one, sizes[one]))
                    self.assertEqual(Empty(one).done(house, state), with_jug(state, one, 0))
                    for other in [jug for jug in jugs if jug != one]:
                        expected = drop_by_drop(sizes, state, one, other)
                        self.assertEqual(Pour(one, other).done(house, state), expected)
                        self.assertEqual(Pour(one, other).done(dry, state), expected)

    def test_the_largest_house(self):
        house = House([3, 3, 4, 24], True)
        states = set(house.states())
        for state in house.states():
            for move in house.moves():
                self.assertIn(move.done(house, state), states)

    def test_a_tuple_is_told(self):
        house = House([3, 5], True)
        for move in house.moves():
            for state in [(0, 0), (3, 5), (1, 2)]:
                self.assertIs(type(move.done(house, state)), tuple)

    def test_one_move_in_several_houses(self):
        move = Pour(0, 1)
        self.assertEqual(move.done(House([3, 5], True), (3, 0)), (0, 3))
        self.assertEqual(move.done(House([3, 2], False), (3, 0)), (1, 2))
        self.assertEqual(move.done(House([3, 5], True), (3, 0)), (0, 3))


class NoMove(unittest.TestCase):
    def test_jugs_from_0_to_3(self):
        for jug in range(4):
            Fill(jug)
            Empty(jug)
            for other in range(4):
                if jug != other:
                    Pour(jug, other)

    def test_no_jug(self):
        for place, wrong in enumerate(kinds.no_numbers() + [-1, -4, 4, 5, 60, kinds.HUGE, -kinds.HUGE]):
            with self.subTest(place):
                for jug in range(4):
                    with self.assertRaises(BadMove):
                        Pour(wrong, jug)
                    with self.assertRaises(BadMove):
                        Pour(jug, wrong)
                with self.assertRaises(BadMove):
                    Pour(wrong, wrong)
                with self.assertRaises(BadMove):
                    Fill(wrong)
                with self.assertRaises(BadMove):
                    Empty(wrong)

    def test_true_and_false_are_no_jugs(self):
        for make in [lambda: Pour(True, 0), lambda: Pour(1, False), lambda: Fill(False), lambda: Empty(True)]:
            with self.assertRaises(BadMove):
                make()

    def test_pour_of_one_jug_into_itself(self):
        for jug in range(4):
            with self.assertRaises(BadMove):
                Pour(jug, jug)


class DoneRefused(unittest.TestCase):
    def test_a_jug_that_the_house_has_not(self):
        for sizes in [[2], [2, 2], [2, 2, 2]]:
            house = House(sizes, True)
            state = house.empty()
            for jug in range(len(sizes), 4):
                for move in [Fill(jug), Empty(jug), Pour(0, jug), Pour(jug, 0)]:
                    with self.subTest(sizes=sizes, jug=jug), self.assertRaises(BadMove):
                        move.done(house, state)
        with self.assertRaises(BadMove):
            Pour(2, 3).done(House([2, 2], True), (1, 1))

    def test_fill_and_empty_without_a_tap(self):
        for sizes in [[2], [2, 2], [2, 2, 2], [2, 2, 2, 2]]:
            house = House(sizes, False)
            for jug in range(4):
                for move in [Fill(jug), Empty(jug)]:
                    for state in [house.empty(), tuple(sizes)]:
                        with self.subTest(sizes=sizes, jug=jug), self.assertRaises(BadMove):
                            move.done(house, state)

    def test_no_state(self):
        for house in [House([3], True), House([3, 5], True), House([2, 2, 2], True), House([1, 2, 3, 4], True)]:
            for place, wrong in enumerate(kinds.no_states(house)):
                for move in [house.moves()[0], Fill(0), Empty(0)]:
                    with self.subTest(place), self.assertRaises(BadState):
                        move.done(house, wrong)

    def test_true_and_false_are_no_amounts(self):
        for state in [(True, 0), (0, False), (False, False)]:
            with self.assertRaises(BadState):
                Pour(0, 1).done(House([3, 5], False), state)

    def test_bad_state_comes_ahead_of_bad_move(self):
        dry = House([3, 5], False)
        for place, wrong in enumerate(kinds.no_states(dry)):
            for move in [Fill(0), Empty(1), Fill(3), Pour(0, 2), Pour(3, 1)]:
                with self.subTest(place), self.assertRaises(BadState):
                    move.done(dry, wrong)

    def test_a_move_that_is_none_of_the_sorts(self):
        with self.assertRaises(BadMove):
            Move().done(House([3, 5], True), (0, 0))
        with self.assertRaises(BadState):
            Move().done(House([3, 5], True), (0, 6))

    def test_a_state_of_another_house(self):
        with self.assertRaises(BadState):
            Pour(0, 1).done(House([3, 5], True), (5, 3))
        with self.assertRaises(BadState):
            Pour(0, 1).done(House([3, 5], True), (3, 5, 0))


class DoneAll(unittest.TestCase):
    def test_one_behind_the_other(self):
        house = House([3, 5], True)
        moves = [Fill(1), Pour(1, 0), Empty(0), Pour(1, 0), Fill(1), Pour(1, 0)]
        self.assertEqual(done_all(moves, house, (0, 0)), (3, 4))
        behind = [done_all(moves[:many], house, (0, 0)) for many in range(7)]
        self.assertEqual(behind, [(0, 0), (0, 5), (3, 2), (0, 2), (2, 0), (2, 5), (3, 4)])

    def test_without_a_tap(self):
        moves = [Pour(0, 1), Pour(1, 2), Pour(2, 0), Pour(1, 2), Pour(0, 1), Pour(1, 2), Pour(2, 0)]
        self.assertEqual(done_all(moves, House([8, 5, 3], False), (8, 0, 0)), (4, 4, 0))

    def test_turn_matters(self):
        house = House([3, 5], True)
        self.assertEqual(done_all([Fill(0), Empty(0)], house, (1, 1)), (0, 1))
        self.assertEqual(done_all([Empty(0), Fill(0)], house, (1, 1)), (3, 1))

    def test_no_moves_at_all(self):
        for sizes in SMALL:
            for tap in [True, False]:
                house = House(sizes, tap)
                for state in house.states():
                    self.assertEqual(done_all([], house, state), state)
        self.assertIs(type(done_all([], House([3], False), (2,))), tuple)

    def test_very_many_moves(self):
        house = House([3, 5], True)
        self.assertEqual(done_all([Fill(0), Pour(0, 1), Empty(1)] * 3000, house, (0, 0)), (0, 0))

    def test_one_move_told_twice(self):
        fill = Fill(0)
        self.assertEqual(done_all([fill, Pour(0, 1), fill, Pour(0, 1)], House([3, 5], True), (0, 0)), (1, 5))


class DoneAllRefused(unittest.TestCase):
    def wrong_lists(self):
        return kinds.no_lists_of_moves() + [[Move()], [Pour(0, 1), Move()]]

    def test_no_list_of_moves(self):
        house = House([3, 5], True)
        for place, wrong in enumerate(self.wrong_lists()):
            with self.subTest(place), self.assertRaises(BadMove):
                done_all(wrong, house, (0, 0))

    def test_no_list_of_moves_comes_ahead_of_bad_state(self):
        house = House([3, 5], True)
        for place, wrong in enumerate(self.wrong_lists()):
            for state in [None, (0,), (0, 6), [0, 0], (True, 0)]:
                with self.subTest(place), self.assertRaises(BadMove):
                    done_all(wrong, house, state)

    def test_no_state(self):
        for house in [House([3], True), House([3, 5], True), House([2, 2, 2], False), House([1, 2, 3, 4], True)]:
            for place, wrong in enumerate(kinds.no_states(house)):
                for moves in [[], house.moves(), house.moves()[:1]]:
                    with self.subTest(place), self.assertRaises(BadState):
                        done_all(moves, house, wrong)

    def test_bad_state_comes_ahead_of_moves_that_the_house_has_not(self):
        dry = House([3, 5], False)
        for place, wrong in enumerate(kinds.no_states(dry)):
            for moves in [[Fill(0)], [Pour(0, 3)], [Pour(0, 1), Empty(1)], [Fill(3)]]:
                with self.subTest(place), self.assertRaises(BadState):
                    done_all(moves, dry, wrong)

    def test_moves_that_the_house_has_not(self):
        dry = House([3, 5], False)
        for moves in [[Fill(0)], [Empty(1)], [Pour(0, 2)], [Pour(3, 1)], [Pour(0, 1), Fill(0)], [Empty(0), Pour(0, 1)]]:
            with self.assertRaises(BadMove):
                done_all(moves, dry, (3, 0))
        with self.assertRaises(BadMove):
            done_all([Fill(0), Pour(0, 1), Fill(2)], House([3, 5], True), (0, 0))


class NothingChanged(unittest.TestCase):
    def test_states_and_lists_handed_in_stay(self):
        house = House([3, 5], True)
        state = (1, 2)
        moves = [Fill(0), Pour(0, 1), Empty(1)]
        kept = list(moves)
        self.assertEqual(done_all(moves, house, state), (0, 0))
        self.assertEqual(state, (1, 2))
        self.assertEqual(len(moves), 3)
        self.assertTrue(all(one is other for one, other in zip(moves, kept)))
        self.assertEqual(house.sizes(), [3, 5])
        for move in moves:
            move.done(house, state)
        self.assertEqual(state, (1, 2))

    def test_a_list_refused_stays(self):
        moves = [Fill(0), "fill 0"]
        with self.assertRaises(BadMove):
            done_all(moves, House([3], True), (0,))
        self.assertEqual(moves[1:], ["fill 0"])
        self.assertEqual(len(moves), 2)

    def test_a_list_may_be_changed_behind(self):
        house = House([3, 5], True)
        moves = [Fill(0)]
        self.assertEqual(done_all(moves, house, (0, 0)), (3, 0))
        moves.append(Pour(0, 1))
        self.assertEqual(done_all(moves, house, (0, 0)), (0, 3))
        moves.clear()
        self.assertEqual(done_all(moves, house, (0, 0)), (0, 0))

    def test_moves_done_again_do_the_same(self):
        house = House([3, 5], True)
        for move in house.moves():
            self.assertEqual(move.done(house, (2, 3)), move.done(house, (2, 3)))


if __name__ == "__main__":
    unittest.main()
