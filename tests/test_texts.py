import itertools
import re
import unittest

import kinds
from jughouse.errors import BadMove, BadText
from jughouse.houses import House
from jughouse.moves import Empty, Fill, Move, Pour
from jughouse.texts import house_of, house_text, routine_of, routine_text
from walks import shown

HOUSE = re.compile(r"jugs((?: [1-9][0-9]?){1,4})( tap)?")
MOVE = r"(?:pour 0 [123]|pour 1 [023]|pour 2 [013]|pour 3 [012]|fill [0-3]|empty [0-3])"
ROUTINE = re.compile(f"({MOVE}(; {MOVE})*)?")

EVERY_MOVE = [Pour(one, other) for one, other in itertools.permutations(range(4), 2)]
EVERY_MOVE += [Fill(jug) for jug in range(4)] + [Empty(jug) for jug in range(4)]

# Signs that are like a blank or a row's end, figures of other scripts, and signs that Python takes in numbers.
BLANKS = ["\t", "\n", "\r", "\v", "\f", "\u00a0", "\u2003", "\u3000", "\u200b", "\x1f", "\x00", "_", ",", "  ", ""]
FIGURES = ["\u0663", "\uff13", "\u00b3", "\u2462", "\U0001d7db"]
AHEAD = ["+", "-", "0", "00", " ", "_", "0x", "0b", "'", "\u2212", "\ufeff"]


def is_house_text(text):
    """Whether a text is of a house, asked in another way than the program does."""
    found = HOUSE.fullmatch(text)
    if not found:
        return False
    sizes = [int(word) for word in found[1].split()]
    many = 1
    for size in sizes:
        many *= size + 1
    return max(sizes) <= 60 and many <= 2000


def neighbours(text):
    """The text with one sign more, less, or another."""
    signs = " ;0123456789tapjugsfilemyorx+-_\n\t\u0663A"
    for place in range(len(text) + 1):
        for sign in signs:
            yield text[:place] + sign + text[place:]
    for place in range(len(text)):
        yield text[:place] + text[place + 1:]
        for sign in signs:
            yield text[:place] + sign + text[place + 1:]


class HouseWritten(unittest.TestCase):
    def test_written_out(self):
        self.assertEqual(house_text(House([3, 5], True)), "jugs 3 5 tap")
        self.assertEqual(house_text(House([8, 5, 3], False)), "jugs 8 5 3")
        self.assertEqual(house_text(House([1], False)), "jugs 1")
        self.assertEqual(house_text(House([60], True)), "jugs 60 tap")
        self.assertEqual(house_text(House([3, 3, 4, 24], True)), "jugs 3 3 4 24 tap")
        self.assertEqual(house_text(House([10, 20], False)), "jugs 10 20")

    def test_a_text_is_told(self):
        self.assertIs(type(house_text(House([3, 5], True))), str)

    def test_the_house_stays(self):
        house = House([3, 5], True)
        house_text(house)
        house_text(house)
        self.assertEqual((house.sizes(), house.tap), ([3, 5], True))


class HouseRead(unittest.TestCase):
    def test_written_out(self):
        for text, sizes, tap in [
            ("jugs 3 5 tap", [3, 5], True), ("jugs 8 5 3", [8, 5, 3], False), ("jugs 1", [1], False),
            ("jugs 60 tap", [60], True), ("jugs 3 3 4 24 tap", [3, 3, 4, 24], True), ("jugs 10 20", [10, 20], False),
        ]:
            house = house_of(text)
            self.assertIs(type(house), House)
            self.assertEqual(house.sizes(), sizes)
            self.assertIs(house.tap, tap)

    def test_what_is_written_is_read(self):
        rows = [[size] for size in range(1, 61)] + [[39, 49], [60, 31], [9, 9, 19], [3, 3, 4, 24], [1, 1, 1, 1]]
        for sizes in rows + [[one, other] for one in range(1, 41, 3) for other in range(1, 41, 4)]:
            for tap in [True, False]:
                house = house_of(house_text(House(sizes, tap)))
                self.assertEqual((house.sizes(), house.tap), (sizes, tap))

    def test_a_new_house_each_time(self):
        first, second = house_of("jugs 3 5"), house_of("jugs 3 5")
        self.assertIsNot(first, second)
        first.sizes().append(1)
        self.assertEqual(second.sizes(), [3, 5])
        self.assertEqual(house_of("jugs 3 5").sizes(), [3, 5])


class HouseRefused(unittest.TestCase):
    def refuse(self, text):
        with self.subTest(text[:60]), self.assertRaises(BadText):
            house_of(text)

    def test_other_words(self):
        for text in ["", " ", "jugs", "jugs ", "tap", " tap", "jugs tap", "jugs  tap", "jug 3", "Jugs 3", "JUGS 3", "3 5",
                     "3 5 tap", "house 3 5", "jugs 3 5 Tap", "jugs 3 5 taps", "jugs 3 5 ta", "jugs 3 5 tap tap",
                     "jugs tap 3 5", "jugs 3 tap 5", "tap jugs 3 5", "jugs jugs 3 5", "jugs 3 5 no tap", "jugs x",
                     "jugs 3 5tap", "jugs3 5", "jugs 3 five", "jugs None", "jugs True", "jugs [3, 5]", "pour 0 1"]:
            self.refuse(text)

    def test_blanks_too_many_or_too_few(self):
        for text in [" jugs 3 5", "jugs 3 5 ", "jugs  3 5", "jugs 3  5", "jugs 3 5  tap", "jugs 3 5 tap ", "jugs 3 5tap",
                     "jugs3 5 tap", "jugs 3 5   tap", "  jugs 3", "jugs 3  ", "jugs 3 5 tap\n", "\njugs 3 5", "jugs 3 5\n"]:
            self.refuse(text)

    def test_other_signs_in_the_place_of_a_blank(self):
        for blank in BLANKS:
            for text in [f"jugs{blank}3 4 tap", f"jugs 30{blank}40 tap", f"jugs 3 4{blank}tap", f"jugs 3 4 tap{blank} ",
                         f"jugs 3{blank} 4", f"jugs 3 {blank}4 tap{blank}x"]:
                if text not in ["jugs 3 4", "jugs 3 4 tap"]:
                    self.refuse(text)

    def test_needless_noughts_and_signs_ahead_of_a_number(self):
        for ahead in AHEAD:
            for text in [f"jugs {ahead}3 5 tap", f"jugs 3 {ahead}5", f"jugs {ahead}0", f"jugs 1 1 1 {ahead}1 tap"]:
                self.refuse(text)

    def test_other_figures(self):
        for figure in FIGURES:
            for text in [f"jugs {figure}", f"jugs 3 {figure} tap", f"jugs 1{figure}"]:
                self.refuse(text)
        for text in ["jugs 3.0", "jugs 1e1", "jugs 0x3", "jugs 1_0", "jugs 3,5", "jugs 3;5", "jugs 3. 5"]:
            self.refuse(text)

    def test_just_beyond_the_bounds(self):
        for text in ["jugs 0", "jugs 0 tap", "jugs 61", "jugs 61 tap", "jugs 3 0", "jugs 0 3 tap", "jugs 1 61",
                     "jugs 1 1 1 1 1", "jugs 1 1 1 1 1 tap", "jugs 2 22 28", "jugs 1 6 10 12 tap", "jugs 60 32",
                     "jugs 60 60 60 60", "jugs 99", "jugs 100", "jugs 600"]:
            self.refuse(text)
        for text in ["jugs 60", "jugs 1 1 1 1", "jugs 39 49", "jugs 9 9 19 tap", "jugs 60 31 tap"]:
            self.assertEqual(house_text(house_of(text)), text)

    def test_numbers_of_very_many_figures(self):
        for many in [3, 10, 100, 3999, 4000]:
            for figure in ["0", "1", "9"]:
                self.refuse("jugs " + figure * many)
                self.refuse("jugs 3 " + figure * many + " tap")
            self.refuse("jugs " + "0" * many + "3")

    def test_very_many_numbers(self):
        self.refuse("jugs" + " 1" * 100000)
        self.refuse("jugs" + " " * 100000)

    def test_what_is_no_text(self):
        for place, wrong in enumerate(kinds.no_texts()):
            with self.subTest(place), self.assertRaises(BadText):
                house_of(wrong)

    def test_read_is_just_what_is_written_so(self):
        for right in ["jugs 3 5 tap", "jugs 1", "jugs 60 31", "jugs 39 49 tap", "jugs 9 9 19", "jugs 3 3 4 24 tap"]:
            for text in neighbours(right):
                if is_house_text(text):
                    self.assertEqual(house_text(house_of(text)), text)
                else:
                    with self.assertRaises(BadText):
                        house_of(text)
                        self.fail(text)


class RoutineWritten(unittest.TestCase):
    def test_written_out(self):
        self.assertEqual(routine_text([Pour(0, 1)]), "pour 0 1")
        self.assertEqual(routine_text([Fill(2)]), "fill 2")
        self.assertEqual(routine_text([Empty(2)]), "empty 2")
        self.assertEqual(routine_text([Fill(1), Pour(1, 0), Empty(0)]), "fill 1; pour 1 0; empty 0")
        self.assertEqual(routine_text([Pour(3, 2), Pour(3, 2)]), "pour 3 2; pour 3 2")

    def test_the_empty_one(self):
        self.assertEqual(routine_text([]), "")

    def test_every_move(self):
        for move in EVERY_MOVE:
            self.assertEqual(routine_text([move]), " ".join(str(part) for part in shown(move)))

    def test_no_list_of_moves(self):
        for place, wrong in enumerate(kinds.no_lists_of_moves() + [[Move()], [Fill(0), Move()]]):
            with self.subTest(place), self.assertRaises(BadMove):
                routine_text(wrong)

    def test_the_list_handed_in_stays(self):
        moves = [Fill(1), Pour(1, 0)]
        kept = list(moves)
        routine_text(moves)
        self.assertTrue(len(moves) == 2 and all(one is other for one, other in zip(moves, kept)))
        moves.pop()
        self.assertEqual(routine_text(moves), "fill 1")


class RoutineRead(unittest.TestCase):
    def read(self, text):
        moves = routine_of(text)
        self.assertIs(type(moves), list)
        return [shown(move) for move in moves]

    def test_written_out(self):
        self.assertEqual(self.read("pour 0 1"), [("pour", 0, 1)])
        self.assertEqual(self.read("fill 2"), [("fill", 2)])
        self.assertEqual(self.read("empty 3"), [("empty", 3)])
        self.assertEqual(self.read("fill 1; pour 1 0; empty 0"), [("fill", 1), ("pour", 1, 0), ("empty", 0)])

    def test_the_empty_one(self):
        self.assertEqual(routine_of(""), [])
        self.assertIs(type(routine_of("")), list)

    def test_what_is_written_is_read(self):
        for one in EVERY_MOVE:
            self.assertEqual(self.read(routine_text([one])), [shown(one)])
            for other in EVERY_MOVE:
                self.assertEqual(self.read(routine_text([one, other])), [shown(one), shown(other)])
        many = EVERY_MOVE * 1000
        self.assertEqual(self.read(routine_text(many)), [shown(move) for move in many])

    def test_told_lists_may_be_changed(self):
        for text in ["", "fill 1; pour 1 0"]:
            expected = self.read(text)
            told = routine_of(text)
            told.append("x")
            told.reverse()
            self.assertEqual(self.read(text), expected)
        routine_of("fill 1")[0].jug = 3
        self.assertEqual(self.read("fill 1"), [("fill", 1)])


class RoutineRefused(unittest.TestCase):
    def refuse(self, text):
        with self.subTest(text[:60]), self.assertRaises(BadText):
            routine_of(text)

    def test_other_words(self):
        for text in [" ", ";", "; ", "pour", "fill", "empty", "pour 0", "pour 0 1 2", "pour ", "fill ", "fill 0 1",
                     "empty 0 1", "Fill 0", "FILL 0", "Pour 0 1", "drain 0", "fill x", "pour a b", "0 1", "pour0 1",
                     "fill0", "jugs 3 5", "fill 0 tap", "tap", "fill, 0", "pour 0, 1", "pour 0 to 1", "fill None",
                     "fill True", "pour 0 1; spill 1", "0", "pour 0 1 ;", "fill fill 0", "pour fill 0"]:
            self.refuse(text)

    def test_between_the_moves(self):
        for between in [";", " ; ", ";  ", " ", "", ", ", ": ", ";\n", ";\t", "\n", ";; ", "; ; ", ";\u00a0", "; \n"]:
            self.refuse(f"fill 0{between}fill 1")
            self.refuse(f"pour 0 1; fill 0{between}empty 1")

    def test_ahead_and_behind(self):
        for text in ["; fill 0", "fill 0; ", "fill 0;", ";fill 0", " fill 0", "fill 0 ", "fill 0\n", "\nfill 0",
                     "fill 0; fill 1; ", "fill 0; fill 1;", "fill 0;; fill 1", "fill 0; ; fill 1", "\tfill 0", "\n"]:
            self.refuse(text)

    def test_other_signs_in_the_place_of_a_blank(self):
        for blank in BLANKS:
            for text in [f"pour{blank}0 1", f"pour 0{blank}1", f"fill{blank}2", f"empty{blank}2", f"fill 0;{blank}fill 1"]:
                self.refuse(text)

    def test_needless_noughts_and_signs_ahead_of_a_number(self):
        for ahead in AHEAD:
            for text in [f"fill {ahead}0", f"fill {ahead}1", f"empty {ahead}3", f"pour {ahead}0 1", f"pour 0 {ahead}1"]:
                self.refuse(text)

    def test_other_figures(self):
        for figure in FIGURES:
            for text in [f"fill {figure}", f"pour {figure} 0", f"pour 0 {figure}", f"empty {figure}"]:
                self.refuse(text)

    def test_jugs_beyond_the_bounds(self):
        for text in ["fill 4", "empty 4", "pour 0 4", "pour 4 0", "fill 10", "fill -1", "pour 3 10", "empty 60"]:
            self.refuse(text)
        for jug in range(4):
            self.refuse(f"pour {jug} {jug}")
            self.refuse(f"fill 0; pour {jug} {jug}")

    def test_numbers_of_very_many_figures(self):
        for many in [2, 3, 10, 100, 3999, 4000]:
            for figure in ["0", "1", "9"]:
                for text in ["fill ", "empty ", "pour 0 ", "fill 0; fill "]:
                    self.refuse(text + figure * many)
                self.refuse("pour " + figure * many + " 1")

    def test_a_fault_behind_very_many_moves(self):
        self.refuse("fill 0; " * 20000)
        self.refuse("fill 0; " * 20000 + "fill 4")

    def test_what_is_no_text(self):
        for place, wrong in enumerate(kinds.no_texts()):
            with self.subTest(place), self.assertRaises(BadText):
                routine_of(wrong)

    def test_read_is_just_what_is_written_so(self):
        for right in ["", "pour 0 1", "fill 2", "empty 3; fill 0", "pour 3 2; pour 2 3; empty 1"]:
            for text in neighbours(right):
                if ROUTINE.fullmatch(text):
                    self.assertEqual(routine_text(routine_of(text)), text)
                else:
                    with self.assertRaises(BadText):
                        routine_of(text)
                        self.fail(text)


if __name__ == "__main__":
    unittest.main()
