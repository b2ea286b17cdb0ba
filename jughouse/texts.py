"""Houses and routines as texts, written and read."""

from jughouse.errors import BadHouse, BadMove, BadText
from jughouse.houses import House
from jughouse.moves import Empty, Fill, Pour, moves_in

FIGURES = "0123456789"
MOST_FIGURES = 2


def house_text(house):
    words = ["jugs"] + [str(size) for size in house.sizes()]
    if house.tap:
        words.append("tap")
    return " ".join(words)


def move_text(move):
    if isinstance(move, Pour):
        return " ".join(["pour", str(move.one), str(move.other)])
    if isinstance(move, Fill):
        return " ".join(["fill", str(move.jug)])
    return " ".join(["empty", str(move.jug)])


def routine_text(moves):
    return "; ".join([move_text(move) for move in moves_in(moves)])


def check_text(text):
    if not isinstance(text, str):
        raise BadText("a text is asked for")


def number_of(word):
    # No size and no jug has more figures, so int is never asked of a very long word.
    if not 1 <= len(word) <= MOST_FIGURES:
        raise BadText("a number is of one or two figures here")
    # Looked at sign by sign, for int would also take a plus, a blank or figures of other scripts.
    for sign in word:
        if sign not in FIGURES:
            raise BadText("a number is written in figures")
    if word[0] == "0" and len(word) > 1:
        raise BadText("a number has no needless nought")
    return int(word)


def house_of(text):
    check_text(text)
    words = text.split(" ")
    tap = words[-1] == "tap"
    if tap:
        words.pop()
    if words[:1] != ["jugs"]:
        raise BadText("the text of a house begins with jugs")
    sizes = [number_of(word) for word in words[1:]]
    try:
        return House(sizes, tap)
    except BadHouse:
        raise BadText("there is no house of these sizes") from None


def move_in_words(sort, jugs):
    if sort == "pour" and len(jugs) == 2:
        return Pour(jugs[0], jugs[1])
    if sort == "fill" and len(jugs) == 1:
        return Fill(jugs[0])
    if sort == "empty" and len(jugs) == 1:
        return Empty(jugs[0])
    raise BadText("a move is written pour with two jugs, or fill or empty with one")


def move_of(text):
    words = text.split(" ")
    jugs = [number_of(word) for word in words[1:]]
    try:
        return move_in_words(words[0], jugs)
    except BadMove:
        raise BadText("there is no move of these jugs") from None


def routine_of(text):
    check_text(text)
    # Split, the empty text would be one move without a word, not no move.
    if text == "":
        return []
    return [move_of(part) for part in text.split("; ")]
