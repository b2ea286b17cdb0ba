import itertools
import unittest

import kinds
from jughouse.errors import BadHouse
from jughouse.houses import House
from jughouse.moves import Fill, Move, Pour
from walks import shown

HOUSES = [[1], [7], [60], [3, 5], [5, 3], [4, 4], [60, 1], [8, 5, 3], [1, 1, 1], [1, 2, 3, 4], [3, 1, 2, 1]]


class Made(unittest.TestCase):
    def test_sizes_and_tap_are_told(self):
        for sizes in HOUSES:
            for tap in [True, False]:
                with self.subTest(sizes=sizes, tap=tap):
                    house = House(list(sizes), tap)
                    self.assertEqual(house.sizes(), sizes)
                    self.assertIs(type(house.sizes()), list)
                    self.assertIs(house.tap, tap)

    def test_one_to_four_jugs(self):
        for many in [1, 2, 3, 4]:
            self.assertEqual(House([1] * many, True).sizes(), [1] * many)
        for many in [0, 5, 6, 1000]:
            with self.subTest(many), self.assertRaises(BadHouse):
                House([1] * many, True)

    def test_sizes_from_1_to_60(self):
        for size in range(1, 61):
            self.assertEqual(House([size], False).sizes(), [size])
        for size in [0, -1, -60, 61, 62, 1999, kinds.HUGE, -kinds.HUGE]:
            for sizes in [[size], [size, 1], [1, size], [1, 1, 1, size]]:
                with self.assertRaises(BadHouse):
                    House(sizes, True)

    def test_product_of_the_sizes_at_2000(self):
        for sizes in [[39, 49], [49, 39], [9, 9, 19], [3, 3, 4, 24], [1, 1, 9, 49]]:
            with self.subTest(sizes):
                self.assertEqual(House(sizes, True).sizes(), sizes)
                self.assertEqual(len(House(sizes, False).states()), 2000)

    def test_product_of_the_sizes_just_beyond_2000(self):
        # The sizes, each with one more: 2001, 2001, 2002, 2006, and far more.
        for sizes in [[2, 22, 28], [28, 22, 2], [1, 6, 10, 12], [33, 58], [60, 60], [60, 60, 60, 60]]:
            for tap in [True, False]:
                with self.subTest(sizes=sizes, tap=tap), self.assertRaises(BadHouse):
                    House(sizes, tap)

    def test_greatest_product_of_two_jugs_with_the_greatest_size(self):
        self.assertEqual(len(House([60, 31], True).states()), 1952)
        with self.assertRaises(BadHouse):
            House([60, 32], True)


class Refused(unittest.TestCase):
    def test_sizes_that_are_no_list(self):
        for place, wrong in enumerate(kinds.no_lists()):
            for tap in [True, False]:
                with self.subTest(place), self.assertRaises(BadHouse):
                    House(wrong, tap)

    def test_sizes_that_are_no_numbers(self):
        for place, wrong in enumerate(kinds.no_numbers()):
            for sizes in [[wrong], [wrong, 3], [3, wrong], [3, 3, 3, wrong]]:
                with self.subTest(place), self.assertRaises(BadHouse):
                    House(sizes, True)

    def test_true_is_no_size(self):
        with self.assertRaises(BadHouse):
            House([True], True)
        with self.assertRaises(BadHouse):
            House([3, True], False)

    def test_tap_that_is_no_truth(self):
        wrongs = [wrong for wrong in kinds.no_numbers() if wrong is not True and wrong is not False]
        for place, wrong in enumerate(wrongs + [0, 1, -1, kinds.HUGE]):
            with self.subTest(place), self.assertRaises(BadHouse):
                House([3, 5], wrong)

    def test_both_wrong(self):
        with self.assertRaises(BadHouse):
            House(None, None)


class Moves(unittest.TestCase):
    def test_one_jug(self):
        self.assertEqual(House([4], False).moves(), [])
        self.assertEqual([shown(move) for move in House([4], True).moves()], [("fill", 0), ("empty", 0)])

    def test_two_jugs(self):
        pours = [("pour", 0, 1), ("pour", 1, 0)]
        self.assertEqual([shown(move) for move in House([3, 5], False).moves()], pours)
        at_the_tap = [("fill", 0), ("fill", 1), ("empty", 0), ("empty", 1)]
        self.assertEqual([shown(move) for move in House([3, 5], True).moves()], pours + at_the_tap)

    def test_three_jugs(self):
        pours = [("pour", 0, 1), ("pour", 0, 2), ("pour", 1, 0), ("pour", 1, 2), ("pour", 2, 0), ("pour", 2, 1)]
        self.assertEqual([shown(move) for move in House([8, 5, 3], False).moves()], pours)
        at_the_tap = [("fill", 0), ("fill", 1), ("fill", 2), ("empty", 0), ("empty", 1), ("empty", 2)]
        self.assertEqual([shown(move) for move in House([8, 5, 3], True).moves()], pours + at_the_tap)

    def test_four_jugs(self):
        pours = [("pour", one, other) for one, other in itertools.permutations(range(4), 2)]
        self.assertEqual([shown(move) for move in House([4, 3, 2, 1], False).moves()], pours)
        at_the_tap = [(sort, jug) for sort in ["fill", "empty"] for jug in range(4)]
        self.assertEqual([shown(move) for move in House([4, 3, 2, 1], True).moves()], pours + at_the_tap)

    def test_a_list_of_moves_told_by_what_they_do(self):
        house = House([3, 5], True)
        behind = [move.done(house, (2, 4)) for move in house.moves()]
        self.assertEqual(behind, [(1, 5), (3, 3), (3, 4), (2, 5), (0, 4), (2, 0)])

    def test_kinds(self):
        moves = House([1, 2, 3, 4], True).moves()
        self.assertIs(type(moves), list)
        self.assertTrue(all(isinstance(move, Move) for move in moves))


class States(unittest.TestCase):
    def test_all_states_in_the_order_of_tuples(self):
        for sizes in HOUSES + [[39, 49], [9, 9, 19], [3, 3, 4, 24]]:
            for tap in [True, False]:
                with self.subTest(sizes=sizes, tap=tap):
                    states = House(list(sizes), tap).states()
                    self.assertEqual(states, list(itertools.product(*[range(size + 1) for size in sizes])))
                    self.assertEqual(states, sorted(states))
                    self.assertIs(type(states), list)
                    self.assertTrue(all(type(state) is tuple for state in states))

    def test_written_out(self):
        self.assertEqual(House([1], True).states(), [(0,), (1,)])
        self.assertEqual(House([1, 2], False).states(), [(0, 0), (0, 1), (0, 2), (1, 0), (1, 1), (1, 2)])

    def test_empty(self):
        for sizes in HOUSES:
            for tap in [True, False]:
                empty = House(list(sizes), tap).empty()
                self.assertEqual(empty, (0,) * len(sizes))
                self.assertIs(type(empty), tuple)


class NothingKept(unittest.TestCase):
    def test_the_list_handed_in_stays(self):
        sizes = [3, 5]
        house = House(sizes, True)
        house.sizes()
        house.moves()
        house.states()
        house.empty()
        self.assertEqual(sizes, [3, 5])

    def test_a_list_refused_stays(self):
        for sizes in [[0, 61, "x"], [60, 60], [1, 1, 1, 1, 1]]:
            kept = list(sizes)
            with self.assertRaises(BadHouse):
                House(sizes, True)
            self.assertEqual(sizes, kept)

    def test_the_list_handed_in_may_be_changed_behind(self):
        sizes = [3, 5]
        house = House(sizes, False)
        sizes[0] = 60
        sizes.append("x")
        self.assertEqual(house.sizes(), [3, 5])
        self.assertEqual(len(house.moves()), 2)
        self.assertEqual(len(house.states()), 24)
        self.assertEqual(house.empty(), (0, 0))
        self.assertEqual(Pour(1, 0).done(house, (0, 5)), (3, 2))

    def test_told_sizes_may_be_changed(self):
        house = House([3, 5], True)
        told = house.sizes()
        told[0] = 60
        told.append(1)
        self.assertEqual(house.sizes(), [3, 5])
        self.assertEqual(len(house.states()), 24)
        self.assertEqual(len(house.moves()), 6)
        self.assertEqual(Fill(0).done(house, (0, 0)), (3, 0))

    def test_told_moves_may_be_changed(self):
        house = House([3, 5], True)
        told = house.moves()
        expected = [shown(move) for move in told]
        told[0].one = 1
        told[2].jug = 1
        told.reverse()
        told.pop()
        self.assertEqual([shown(move) for move in house.moves()], expected)

    def test_told_states_may_be_changed(self):
        house = House([1, 1], True)
        told = house.states()
        told.reverse()
        told.clear()
        self.assertEqual(house.states(), [(0, 0), (0, 1), (1, 0), (1, 1)])

    def test_two_houses_stand_apart(self):
        sizes = [3, 5]
        first = House(sizes, True)
        sizes.append(2)
        second = House(sizes, False)
        self.assertEqual((first.sizes(), first.tap), ([3, 5], True))
        self.assertEqual((second.sizes(), second.tap), ([3, 5, 2], False))


if __name__ == "__main__":
    unittest.main()
