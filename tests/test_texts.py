"""Point 12: boards as text."""

import random
import re
import unittest

from forbidmoves.boards import Board, Field
from forbidmoves.errors import BadBoard, BadText
from forbidmoves.texts import board_text, read_board
from tests.helper import (NOT_BOARDS, NOT_NAMES, NOT_STRINGS, at_goal, example, largest, lost, made, mixed_boards,
                          some_boards, spoiled, two_ways)

EXAMPLE = "field a 1 b\nfield b 2 a c\ngoal c 1\nstart a\nprice b a 2\nprice a b 1\n"
LINES = EXAMPLE.split("\n")[:-1]
SPACES = ["  ", "\t", "\u00a0", "\u2003", "\x0b", "\x0c", "\r"]


def text_of(lines):
    return "".join(line + "\n" for line in lines)


def row_of(text):
    """Return the row of the BadText that reading a text raises, or None if it raises none."""
    try:
        read_board(text)
    except BadText as wrong:
        return wrong.row
    return None


def kind_by_the_words(line):
    """Return the kind of a line that has one of the forms, or None."""
    if re.fullmatch(r"start [a-z]{1,8}", line):
        return "start"
    if re.fullmatch(r"price [a-z]{1,8} [a-z]{1,8} [1-9]", line):
        return "price"
    if re.fullmatch(r"(field|goal) [a-z]{1,8} [12]( [a-z]{1,8})*", line):
        targets = line.split(" ")[3:]
        return "field" if len(set(targets)) == len(targets) else None
    return None


def row_by_the_words(text):
    """Return the row that the document asks for, or None for the text of a board."""
    *lines, rest = text.split("\n")
    started = False
    for row, line in enumerate(lines):
        kind = kind_by_the_words(line)
        if kind is None or started != (kind == "price"):
            return row
        started = started or kind == "start"
    if not started or rest:
        return len(lines)
    return None if is_board_by_the_words([line.split(" ") for line in lines]) else 0


def is_board_by_the_words(lines):
    """Tell whether accepted lines form a board: points 3 and 12."""
    fields = [words for words in lines if words[0] in ("field", "goal")]
    names = [words[1] for words in fields]
    moves = [(words[1], target) for words in fields for target in words[3:]]
    start = [words[1] for words in lines if words[0] == "start"][0]
    priced = [(words[1], words[2]) for words in lines if words[0] == "price"]
    return (1 <= len(names) <= 8 and len(set(names)) == len(names) and all(target in names for _, target in moves)
            and start in names and len(priced) <= 6 and len(set(priced)) == len(priced)
            and all(move in moves for move in priced))


class Writing(unittest.TestCase):
    def test_the_example(self):
        self.assertEqual(board_text(example()), EXAMPLE)

    def test_fields_and_goals_in_the_order_of_the_board(self):
        raw = {"c": (2, "abc", True), "abcdefgh": (1, "", True), "a": (1, "", False), "b": (2, ("c", "abcdefgh"), False)}
        board = made(raw, "abcdefgh", [(("b", "abcdefgh"), 9), (("c", "c"), 1), (("b", "c"), 5)])
        self.assertEqual(board_text(board),
                         "goal c 2 a b c\ngoal abcdefgh 1\nfield a 1\nfield b 2 c abcdefgh\nstart abcdefgh\n"
                         "price b abcdefgh 9\nprice c c 1\nprice b c 5\n")

    def test_the_smallest(self):
        self.assertEqual(board_text(Board({"z": Field(2)}, "z", {})), "field z 2\nstart z\n")
        self.assertEqual(board_text(Board({"z": Field(1, "z", goal=True)}, "z", {})), "goal z 1 z\nstart z\n")

    def test_the_largest(self):
        self.assertEqual(board_text(largest()),
                         "field s 2 a b c d e f g\nfield a 1\nfield b 1\nfield c 1\nfield d 1\nfield e 1\nfield f 1\n"
                         "goal g 1\nstart s\n"
                         "price s f 9\nprice s b 8\nprice s d 7\nprice s c 3\nprice s e 2\nprice s a 1\n")

    def test_without_the_moves_of_a_set(self):
        self.assertEqual(board_text(example() - (("b", "a"),)), "field a 1 b\nfield b 2 c\ngoal c 1\nstart a\nprice a b 1\n")

    def test_what_is_not_a_board(self):
        for wrong in [*NOT_BOARDS, EXAMPLE]:
            with self.assertRaises(BadBoard) as caught:
                board_text(wrong)
            self.assertIsNone(caught.exception.part)

    def test_arguments_by_name(self):
        self.assertEqual(board_text(board=read_board(text=EXAMPLE)), EXAMPLE)


class Reading(unittest.TestCase):
    def test_the_example(self):
        board = read_board(EXAMPLE)
        self.assertIsInstance(board, Board)
        self.assertTrue(board == example())
        self.assertEqual(board.moves, [("b", "a"), ("a", "b")])
        self.assertEqual([board.price(move) for move in board.moves], [2, 1])

    def test_fields_and_goals(self):
        board = read_board("goal b 2 a b\nfield abcdefgh 1\ngoal a 1\nstart b\n")
        self.assertEqual(board.names, ["b", "abcdefgh", "a"])
        self.assertTrue(board["b"] == Field(2, "a", "b", goal=True))
        self.assertTrue(board["abcdefgh"] == Field(1))
        self.assertTrue(board["a"] == Field(1, goal=True))
        self.assertEqual([board.start, board.moves], ["b", []])

    def test_names_that_are_words_of_the_lines(self):
        text = "field field 1 goal start\ngoal goal 2 price\nfield start 1\nfield price 2 price\nstart start\n" \
               "price price price 1\nprice field start 9\n"
        board = read_board(text)
        self.assertEqual([board.names, board.start, board.moves],
                         [["field", "goal", "start", "price"], "start", [("price", "price"), ("field", "start")]])
        self.assertEqual(board_text(board), text)

    def test_round_trips(self):
        boards = [example(), largest(), two_ways(1, 2, 3), spoiled(), lost(), at_goal()]
        boards += [board for _, board in [*some_boards(150, seed=71), *mixed_boards(30, seed=72)]]
        for board in boards:
            text = board_text(board)
            self.assertTrue(read_board(text) == board)
            self.assertEqual(board_text(read_board(text)), text)
            self.assertIsNone(row_by_the_words(text))

    def test_all_owners_and_costs(self):
        for owner in [1, 2]:
            for cost in range(1, 10):
                text = f"field a {owner} a\nstart a\nprice a a {cost}\n"
                board = read_board(text)
                self.assertEqual([board["a"].owner, board.price(("a", "a"))], [owner, cost])
                self.assertEqual(board_text(board), text)

    def test_what_is_not_a_string(self):
        for wrong in [*NOT_STRINGS, LINES, EXAMPLE.encode(), example(), tuple(LINES)]:
            self.assertEqual(row_of(wrong), 0)

    def test_only_texts_of_boards_are_read(self):
        for text in ["", "\n", " ", "\n\n", "a", "board", "field", "\0"]:
            self.assertEqual(row_of(text), 0)


class Lines(unittest.TestCase):
    """One line of the example altered, removed or added."""

    def altered(self, at, line):
        return row_of(text_of(LINES[:at] + [line] + LINES[at + 1:]))

    def test_fields_that_are_not_accepted(self):
        for line in ["", " ", "field", "field b", "field b 2 a a", "field b 2 a c a", "field b 0 a c", "field b 3 a c",
                     "field b 12 a c", "field b 02 a c", "field b +2 a c", "field b -1 a c", "field b  a c", "field b a c",
                     "field B 2 a c", "field b 2 A c", "field b 2 a C", "field abcdefghi 2 a c", "field b 2 abcdefghi c",
                     "field b1 2 a c", "field b 2 a_ c", "field b 2  a c", "field  b 2 a c", "field b 2 a  c",
                     " field b 2 a c", "field b 2 a c ", "field b 2 ", "field b 2 a c\r", "Field b 2 a c", "FIELD b 2 a c",
                     "fields b 2 a c", "fiel b 2 a c", "b 2 a c", "node b 2 a c", "field 2 b a c", "field b 2 a 1",
                     "field b 2 a,c", "field b, 2 a c", "# field b 2 a c", "field b two a c", "field b True a c",
                     "field b 2.0 a c", "field b None a c", "field\tb 2 a c", "field b\t2 a c", "field b 2\ta c",
                     "field \u00e4 2 a c", "field b \u0662 a c", "field b \uff12 a c", "field b 2 a \u0441",
                     "field b \u00b2 a c", "field  2 a c", "price b a 2", "price a b 1", "price b a", "price", "goals b 2 a c",
                     "goal", "goal b", "goal b 0", "goal b 2 a a", "goal b 2 c a a", "starts b", "start", "start b a",
                     "start b ", "start  b", " start b", "start B", "start 1", "start ", "start abcdefghi", "\u2028"]:
            self.assertEqual(self.altered(1, line), 1, line)

    def test_names_that_are_not_accepted(self):
        for name in NOT_NAMES:
            if "\n" not in name:
                with self.subTest(name):
                    self.assertEqual(self.altered(1, f"field {name} 2 a c"), 1)
                    self.assertEqual(self.altered(2, f"goal {name} 1"), 2)
                    self.assertEqual(self.altered(3, f"start {name}"), 3)
                    self.assertEqual(self.altered(4, f"price {name} a 2"), 4)
                    self.assertEqual(self.altered(5, f"price a {name} 1"), 5)
                    # With one space between them these are two names, and so two targets.
                    self.assertEqual(self.altered(1, f"field b 2 {name}"), None if name == "a b" else 1)

    def test_spaces_of_other_kinds(self):
        for space in SPACES:
            for at in range(len(LINES)):
                for place in range(LINES[at].count(" ")):
                    words = LINES[at].split(" ")
                    line = " ".join(words[:place]) + " " * (place > 0) + words[place] + space
                    self.assertEqual(self.altered(at, line + " ".join(words[place + 1:])), at)
                self.assertEqual(self.altered(at, LINES[at] + space), at)
                self.assertEqual(self.altered(at, space + LINES[at]), at)

    def test_starts_that_are_not_accepted(self):
        for line in ["", "start", "start ", "start a b", "start a ", "start  a", "start A", "start 1", "start abcdefghi",
                     "Start a", "begin a", "start: a", "a", " start a", "start a\r", "start\ta", "price b a 2",
                     "price a b 1", "field d", "goal d"]:
            self.assertEqual(self.altered(3, line), 3, line)

    def test_prices_that_are_not_accepted(self):
        for line in ["", "price", "price a", "price a b", "price a b ", "price a b 0", "price a b 10", "price a b 11",
                     "price a b 01", "price a b -1", "price a b +1", "price a b 1 ", "price a b 1 1", "price a b  1",
                     "price a  b 1", "price  a b 1", " price a b 1", "price a b c", "price a 1", "price A b 1",
                     "price a B 1", "price abcdefghi b 1", "price a abcdefghi 1", "price a1 b 1", "Price a b 1",
                     "prices a b 1", "cost a b 1", "a b 1", "price a b 1\r", "price a b 1.0", "price a b 1.", "price a b \u0661",
                     "price a b \u00b9", "price a b x", "price a b True", "price 1 a b", "price a b 123", "price a b 89",
                     "field a 1 b", "field z 1", "goal z 1", "goal c 1", "start a", "start b", "start"]:
            self.assertEqual(self.altered(5, line), 5, line)
            self.assertEqual(row_of(EXAMPLE + line + "\n"), 6, line)

    def test_lines_that_are_removed(self):
        for at, row in [(0, 0), (1, 0), (2, 0), (3, 3), (4, None), (5, None)]:
            self.assertEqual(row_of(text_of(LINES[:at] + LINES[at + 1:])), row)
        self.assertEqual(row_of(text_of(LINES[:3])), 3)
        self.assertEqual(row_of(text_of(LINES[:2])), 2)
        self.assertEqual(row_of(text_of(LINES[:1])), 1)
        self.assertEqual(row_of(text_of(LINES[:4])), None)
        self.assertEqual(row_of(text_of(LINES[3:])), 0)
        self.assertEqual(row_of(text_of(LINES[4:])), 0)

    def test_lines_that_are_added_twice(self):
        for at, row in [(0, 0), (1, 0), (2, 0), (3, 4), (4, 0), (5, 0)]:
            self.assertEqual(row_of(text_of(LINES[:at] + [LINES[at]] + LINES[at:])), row)

    def test_empty_lines_that_are_added(self):
        for at in range(len(LINES) + 1):
            self.assertEqual(row_of(text_of(LINES[:at] + [""] + LINES[at:])), at)

    def test_lines_in_another_order(self):
        self.assertEqual(row_of(text_of([LINES[3]] + LINES[:3] + LINES[4:])), 1)
        self.assertEqual(row_of(text_of(LINES[4:] + LINES[:4])), 0)
        self.assertEqual(row_of(text_of(LINES[:2] + [LINES[3], LINES[2]] + LINES[4:])), 3)
        self.assertEqual(row_of(text_of(LINES[:3] + [LINES[4], LINES[3], LINES[5]])), 3)
        self.assertEqual(row_of(text_of(LINES + ["field d 1"])), 6)
        self.assertEqual(row_of(text_of(LINES[:3][::-1] + LINES[3:])), None)
        board = read_board(text_of(LINES[:4] + LINES[4:][::-1]))
        self.assertEqual(board.moves, [("a", "b"), ("b", "a")])
        self.assertFalse(board == example())

    def test_the_first_line_that_is_not_accepted(self):
        for first in range(len(LINES)):
            for second in range(first, len(LINES)):
                lines = list(LINES)
                lines[first] = lines[second] = "?"
                self.assertEqual(row_of(text_of(lines)), first)
                self.assertEqual(row_of(text_of(lines)[:-1]), first if first < len(LINES) - 1 else 5)


class Endings(unittest.TestCase):
    def test_no_line_of_the_start(self):
        self.assertEqual(row_of(""), 0)
        self.assertEqual(row_of("field a 1\n"), 1)
        self.assertEqual(row_of("field a 1\ngoal b 2 a\n"), 2)

    def test_no_line_of_the_start_comes_before_what_is_checked_at_the_end(self):
        self.assertEqual(row_of("field a 1 b\n"), 1)
        self.assertEqual(row_of("field a 1\nfield a 1\n"), 2)
        self.assertEqual(row_of(text_of([f"field {name} 1" for name in "abcdefghi"])), 9)

    def test_characters_after_the_last_line_feed(self):
        for rest in ["a", " ", "price b a 2", "\r", "start a", "field d 1", "\0", "\t", "\x0b", "\u2028"]:
            self.assertEqual(row_of(EXAMPLE + rest), 6)
        self.assertEqual(row_of(EXAMPLE[:-1]), 5)
        self.assertEqual(row_of("field a 1\nstart a"), 1)
        self.assertEqual(row_of("start a"), 0)
        self.assertEqual(row_of("field a 1"), 0)
        self.assertEqual(row_of("field a 1\nfield b 2"), 1)

    def test_they_come_before_what_is_checked_at_the_end(self):
        self.assertEqual(row_of("field a 1\nfield a 1\nstart a\nx"), 3)
        self.assertEqual(row_of("start a\nx"), 1)
        self.assertEqual(row_of("field a 1\nstart b\n?"), 2)

    def test_lines_that_are_not_accepted_come_first(self):
        self.assertEqual(row_of("field a 1\nfield a\nfield b 1"), 1)
        self.assertEqual(row_of("field a 1 z\nfield a 1\nstart q\nprice a b 0\n"), 3)
        self.assertEqual(row_of("field a 1\n\n"), 1)
        self.assertEqual(row_of(EXAMPLE + "\n"), 6)
        self.assertEqual(row_of("\n" + EXAMPLE), 0)
        self.assertEqual(row_of(EXAMPLE + EXAMPLE), 6)

    def test_only_a_line_feed_ends_a_line(self):
        for end in ["\r\n", "\r", "\x0b", "\x0c", "\x1c", "\x1d", "\x1e", "\x85", "\u2028", "\u2029"]:
            self.assertEqual(row_of(EXAMPLE.replace("\n", end)), 0)
            self.assertEqual(row_of("field a 1\nfield b 1" + end + "start a\n"), 1)


class Boards(unittest.TestCase):
    """Lines that are accepted, and do not form a board."""

    def test_fields(self):
        for text in ["start a\n", "field a 1\nfield a 1\nstart a\n", "field a 1\ngoal a 2\nstart a\n",
                     "field a 1 b\nstart a\n", "field a 1 a b\nfield c 1\nstart c\n", "goal a 1\nfield b 2 c\nstart a\n",
                     "field a 1\nfield b 1\nfield a 1 b\nstart b\n"]:
            self.assertEqual(row_of(text), 0)

    def test_eight_fields_and_nine(self):
        names = list("abcdefghi")
        for many, row in [(8, None), (9, 0)]:
            lines = [f"field {name} 1 {' '.join(names[:many])}" for name in names[:many]] + ["start a"]
            self.assertEqual(row_of(text_of(lines)), row)
        self.assertEqual(row_of(text_of([f"field {name} 1" for name in "abcdefgha"] + ["start a"])), 0)
        self.assertEqual(row_of(text_of([f"field {name} 1" for name in "abcdefghij"] + ["start a", "price a b"])), 11)

    def test_the_start(self):
        for text in ["field a 1\nstart b\n", "goal a 1\nfield c 1\nstart b\n"]:
            self.assertEqual(row_of(text), 0)

    def test_prices(self):
        self.assertEqual(row_of(EXAMPLE + "price b c 1\n"), None)
        for line in ["price a c 1", "price b b 1", "price c a 1", "price a z 1", "price z a 1", "price y z 1",
                     "price b a 2", "price b a 3", "price a b 1"]:
            self.assertEqual(row_of(EXAMPLE + line + "\n"), 0)

    def test_six_prices_and_seven(self):
        lines = ["field a 1 a b c", "field b 2 a b c", "field c 1 a b c", "start c"]
        prices = [f"price {name} {target} 9" for name in "cba" for target in "acb"]
        self.assertEqual(row_of(text_of(lines + prices[:6])), None)
        self.assertEqual(row_of(text_of(lines + prices[:7])), 0)
        self.assertEqual(row_of(text_of(lines + prices)), 0)
        self.assertEqual(row_of(text_of(lines + prices[:6] + prices[:1])), 0)

    def test_many_targets_in_a_line(self):
        names = [first + second for first in "abcdefghij" for second in "klmnopqrst"]
        self.assertEqual(row_of(text_of([f"field a 1 {' '.join(names)}", "start a"])), 0)
        self.assertEqual(row_of(text_of([f"field a 1 {' '.join(names + names[:1])}", "start a"])), 0)
        self.assertEqual(row_of(text_of(["field a 1", f"field b 1 {' '.join(names + names[:1])}", "start a"])), 1)

    def test_many_lines(self):
        text = text_of(["field a 1"] * 20000)
        self.assertEqual(row_of(text), 20000)
        self.assertEqual(row_of(text + "start a\n"), 0)
        self.assertEqual(row_of(text + "start a\n" + "price a a 1\n" * 20000 + "start a\n"), 40001)


class Altered(unittest.TestCase):
    """Texts of boards with small changes, judged by the words."""

    def assert_row(self, text):
        self.assertEqual(row_of(text), row_by_the_words(text), text)

    def texts(self, many, seed):
        return [board_text(board) for _, board in mixed_boards(many, seed=seed)]

    def test_lines(self):
        for text in self.texts(25, 73):
            lines = text.split("\n")[:-1]
            for at in range(len(lines)):
                self.assert_row(text_of(lines[:at] + lines[at + 1:]))
                for other in lines + ["field z 1", "goal z 2 a", "start z", "price a z 1", "", "field"]:
                    self.assert_row(text_of(lines[:at] + [other] + lines[at:]))
                    self.assert_row(text_of(lines[:at] + [other] + lines[at + 1:]))

    def test_words(self):
        for text in self.texts(25, 74):
            lines = text.split("\n")[:-1]
            for at in range(len(lines)):
                words = lines[at].split(" ")
                for place in range(len(words)):
                    for other in ["a", "z", "1", "2", "3", "", "goal", "field", "start", "price"]:
                        line = " ".join(words[:place] + [other] + words[place + 1:])
                        self.assert_row(text_of(lines[:at] + [line] + lines[at + 1:]))
                    line = " ".join(words[:place] + words[place + 1:])
                    self.assert_row(text_of(lines[:at] + [line] + lines[at + 1:]))

    def test_characters(self):
        draw = random.Random(75)
        for text in self.texts(40, 75):
            for _ in range(60):
                at = draw.randrange(len(text))
                self.assert_row(text[:at] + text[at + 1:])
                self.assert_row(text[:at] + draw.choice("abz0129 \n\tA") + text[at:])
                self.assert_row(text[:at] + draw.choice("abz0129 \n\tA") + text[at + 1:])
                self.assert_row(text[:at])
                self.assert_row(text[at:])

    def test_what_is_read_is_what_was_written(self):
        draw = random.Random(76)
        for text in self.texts(40, 76):
            lines = text.split("\n")[:-1]
            for _ in range(20):
                mixed = text_of(draw.sample(lines, len(lines)))
                if row_by_the_words(mixed) is None:
                    self.assertEqual(board_text(read_board(mixed)), mixed)
                else:
                    self.assert_row(mixed)


if __name__ == "__main__":
    unittest.main()
