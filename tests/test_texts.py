"""Stage 4: texts of floors and plans, [4.1]."""

import unittest

from bondfloors.base.floors import Floor
from bondfloors.errors import InvalidFloor, InvalidPlan, ParseError
from bondfloors.plans.plans import Plan
from bondfloors.text import texts
from bondfloors.text.texts import read_floor, read_plan, write_floor, write_plan
from tests.drawn import DRAWN_SIZES, Numbers, drawn_floor, drawn_plan
from tests.helper import BIG, FIVE_ROWS, FORTY, cells, five, odd_values

FIVE_TEXT = "floor 6 5 2\nv>-v>-\n|>-|vv\nvv>-||\n||v>-v\n>-|>-|"
HALF = Plan((4, 2, 2), (2, 0, 2, 2, "across"), (0, 0, 2, 2, "down"))
HALF_TEXT = "plan 4 2 2\n0 0 2 2 down\n2 0 2 2 across"
FORTY_ONE = 10 ** 40
NO_STRINGS = [value for value in odd_values() if not isinstance(value, str)] + [
    0, 1, [FIVE_TEXT], (FIVE_TEXT,), {FIVE_TEXT: 1}, FIVE_TEXT.split("\n"), HALF,
]
# Words that are no integer in a text.
WRONG_NUMBERS = ("", "+2", "-2", "-0", "02", "00", "2.0", "2.", "two", "0x2", "1e1", "2_0", "2,", "~", str(FORTY_ONE),
                 "1" * 41, "0" * 41, "9" * 60, "v", "2-", "\t2", "None", "True")


class Reading(unittest.TestCase):
    def no_form(self, read, text, line):
        with self.subTest(text=text), self.assertRaises(ParseError) as raised:
            read(text)
        self.assertEqual(raised.exception.line, line)
        self.assertIs(type(raised.exception.line), int)

    def no_text(self, read, text):
        error = InvalidFloor if read is read_floor else InvalidPlan
        with self.subTest(text=text), self.assertRaises(error):
            read(text)


class Floors(Reading):
    def test_write(self):
        self.assertEqual(write_floor(five()), FIVE_TEXT)
        self.assertEqual(write_floor(Floor.plain((3, 2, 3))), "floor 3 2 3\n>--\n>--")
        self.assertEqual(write_floor(Floor.plain((2, 3, 3))), "floor 2 3 3\nvv\n||\n||")
        self.assertEqual(write_floor(Floor.plain((2, 1, 2))), "floor 2 1 2\n>-")
        self.assertEqual(write_floor(Floor.plain((1, 2, 2))), "floor 1 2 2\nv\n|")
        self.assertEqual(write_floor(Floor.plain((8, 1, 4))), "floor 8 1 4\n>--->---")
        self.assertEqual(write_floor(Floor.plain((400, 1, 400))), "floor 400 1 400\n>" + "-" * 399)

    def test_read(self):
        floor = read_floor(FIVE_TEXT)
        self.assertIsInstance(floor, Floor)
        self.assertEqual([floor, floor.size, floor.bars], [five(), (6, 5, 2), five().bars])
        self.assertEqual(read_floor("floor 1 2 2\nv\n|").bars, ((0, 0, "down"),))
        self.assertEqual(read_floor("floor 10 2 10\n>---------\n>---------"), Floor.plain((10, 2, 10)))

    def test_drawn_floors_letter_by_letter(self):
        numbers = Numbers(11)
        for size in DRAWN_SIZES:
            for _ in range(3):
                floor = drawn_floor(numbers, size)
                text = write_floor(floor)
                head, *rows = text.split("\n")
                with self.subTest(text=text):
                    self.assertEqual(head, "floor %d %d %d" % size)
                    self.assertEqual([len(row) for row in rows], [size[0]] * size[1])
                    for x, y, way in floor.bars:
                        letters = "".join(rows[b][a] for a, b in cells((x, y, way), size[2]))
                        self.assertEqual(letters, {"across": ">-", "down": "v|"}[way] + {"across": "-", "down": "|"}[way]
                                         * (size[2] - 2))
                    self.assertEqual(read_floor(text), floor)
                    self.assertEqual(write_floor(read_floor(text)), text)

    def test_what_is_no_floor(self):
        wrong = [value for value in odd_values() if not isinstance(value, Floor)] + [HALF, FIVE_TEXT, (6, 5, 2), 0]
        for floor in wrong:
            with self.subTest(floor=floor), self.assertRaises(InvalidFloor):
                write_floor(floor)

    def test_what_is_no_string(self):
        for text in NO_STRINGS:
            self.no_text(read_floor, text)

    def test_first_lines_without_their_form(self):
        heads = ["", " ", "floor", "floor 6 5", "floor 6 5 2 2", "floor 6 5 2 ", " floor 6 5 2", "floor  6 5 2",
                 "floor 6  5 2", "floor 6 5  2", "Floor 6 5 2", "FLOOR 6 5 2", "floors 6 5 2", "plan 6 5 2", "6 5 2",
                 "floor,6,5,2", "floor 6 5 2 across", "floor\t6 5 2", "f 6 5 2", "floor 6 5 2.", "v>-v>-"]
        for place in range(3):
            for word in WRONG_NUMBERS:
                words = ["6", "5", "2"]
                words[place] = word
                heads.append("floor " + " ".join(words))
        for head in heads:
            self.no_form(read_floor, head + FIVE_TEXT[len("floor 6 5 2"):], 0)
            self.no_form(read_floor, head, 0)
            self.no_form(read_floor, head + "\n\n", 0)
            self.no_form(read_floor, "\n" + head, 0)
        self.no_form(read_floor, HALF_TEXT, 0)
        self.no_form(read_floor, "\n" + FIVE_TEXT, 0)
        self.no_form(read_floor, "~", 0)

    def test_rows_without_their_form(self):
        wrong = ["", " ", "v>-v> ", " v>-v>-", "v>-v>- ", "v>-V>-", "v>-x>-", "v>-v>=", "v>-v>_", "......", "floor 6 5 2",
                 "0 0 2 2 down", "1", "<>-v>-", "v>-v>-,", "down", "~"]
        for row in wrong:
            for at in range(1, 6):
                lines = FIVE_TEXT.split("\n")
                lines[at] = row
                self.no_form(read_floor, "\n".join(lines), at)
        # The first such line decides.
        self.no_form(read_floor, "floor 6 5 2\nv>-v>-\n|>-|vv\n?\n?\n?", 3)
        self.no_form(read_floor, "floor 6 5 2\nv\n\n>", 2)
        self.no_form(read_floor, "floor 6 5\n\n", 0)

    def test_a_newline_at_the_end_and_empty_lines(self):
        self.no_form(read_floor, FIVE_TEXT + "\n", 6)
        self.no_form(read_floor, FIVE_TEXT + "\n\n", 6)
        self.no_form(read_floor, FIVE_TEXT + "\n ", 6)
        self.no_form(read_floor, FIVE_TEXT.replace("2\n", "2\n\n", 1), 1)
        self.no_form(read_floor, FIVE_TEXT.replace("\n", "\n\n"), 1)
        self.no_form(read_floor, "floor 6 5 2\n", 1)
        self.no_form(read_floor, "floor 1 2 2\nv\n|\n", 3)

    def test_form_comes_before_the_rest(self):
        # What is no text of a floor by its numbers, too, has a line without its form first.
        self.no_form(read_floor, "floor 0 0 0\n>-\n?", 2)
        self.no_form(read_floor, "floor 6 5 2\n>\n>>>>>>>>>\n?\nv", 3)
        self.no_form(read_floor, "floor 3 3 2\n>-v\n>-|\n", 3)
        self.no_form(read_floor, f"floor {FORTY} {FORTY} {FORTY}\n ", 1)

    def test_other_numbers_of_rows(self):
        lines = FIVE_TEXT.split("\n")
        for many in range(1, 6):
            self.no_text(read_floor, "\n".join(lines[:many]))
        self.no_text(read_floor, FIVE_TEXT + "\n>->->-")
        self.no_text(read_floor, FIVE_TEXT + "\n------")
        self.no_text(read_floor, FIVE_TEXT + "\n-")
        self.no_text(read_floor, FIVE_TEXT + "\n|")
        self.no_text(read_floor, "floor 6 5 2")
        self.no_text(read_floor, "floor 1 2 2\nv")
        self.no_text(read_floor, "floor 2 1 2\n>-\n>-")

    def test_rows_of_other_lengths(self):
        for text in ("floor 6 5 2\nv>-v>--\n|>-|vv\nvv>-||\n||v>-v\n>-|>-|", FIVE_TEXT + "-", FIVE_TEXT + "|", FIVE_TEXT[:-1],
                     FIVE_TEXT + ">-", "floor 2 1 2\n>", "floor 2 1 2\n>--", "floor 2 1 2\n>->-", "floor 3 1 3\n>-",
                     "floor 4 1 2\n>->", "floor 2 2 2\n>->-", "floor 2 2 2\n>\n>", "floor 1 2 2\nv|\n|"):
            self.no_text(read_floor, text)

    def test_letters_in_wrong_places(self):
        rows = "\n".join(FIVE_ROWS)
        for at, letter in enumerate(rows):
            for other in ">-v|":
                if letter != "\n" and other != letter:
                    self.no_text(read_floor, "floor 6 5 2\n" + rows[:at] + other + rows[at + 1:])
        for text in ("floor 2 1 2\n->", "floor 2 1 2\n--", "floor 2 1 2\n>|", "floor 2 1 2\nv-", "floor 1 2 2\n|\nv",
                     "floor 1 2 2\nv\nv", "floor 1 2 2\nv\n-", "floor 2 2 2\nvv\n--", "floor 2 2 2\n>-\n||", "floor 2 1 2\n||",
                     "floor 3 3 3\n>--\n>-|\n>--"):
            self.no_text(read_floor, text)

    def test_other_sizes(self):
        rows = FIVE_TEXT[len("floor 6 5 2"):]
        for size in ("5 6 2", "6 5 3", "6 4 2", "5 5 2", "7 5 2", "6 6 2", "0 5 2", "6 0 2", "6 5 0", "6 5 1", "10 3 2",
                     f"6 5 {FORTY}", f"{FORTY} 5 2", f"6 {FORTY} 2", f"{BIG} {BIG} 2", f"{BIG + 1} 5 2", "0 0 0", "9 9 9"):
            self.no_text(read_floor, f"floor {size}{rows}")
        self.no_text(read_floor, f"floor {FORTY} {FORTY} {FORTY}\n>")
        self.no_text(read_floor, "floor 401 1 401\n>" + "-" * 400)
        self.no_text(read_floor, "floor 2 201 2" + 201 * "\n>-")

    def test_an_integer_of_forty_digits_has_its_form(self):
        self.no_text(read_floor, f"floor {FORTY} 1 2\n>-")
        self.no_form(read_floor, f"floor {FORTY_ONE} 1 2\n>-", 0)
        self.no_text(read_floor, f"floor 1 {'1' * 40} 2\n>-")
        self.no_form(read_floor, f"floor 1 {'1' * 41} 2\n>-", 0)

    def test_400_cells(self):
        for size in ((20, 20, 2), (400, 1, 400), (1, 400, 400), (200, 2, 2)):
            floor = Floor.plain(size)
            self.assertEqual(read_floor(write_floor(floor)), floor)


class Plans(Reading):
    def test_write(self):
        self.assertEqual(write_plan(HALF), HALF_TEXT)
        self.assertEqual(write_plan(Plan((3, 2, 3), (0, 0, 3, 2, "across"))), "plan 3 2 3\n0 0 3 2 across")
        self.assertEqual(write_plan(Plan((1, 2, 2), (0, 0, 1, 2, "down"))), "plan 1 2 2\n0 0 1 2 down")
        side = "1" + 30 * "0"
        self.assertEqual(write_plan(Plan((BIG, 2, 2), (0, 0, BIG, 2, "across"))), f"plan {side} 2 2\n0 0 {side} 2 across")

    def test_ascending_by_numbers(self):
        plan = Plan((12, 1, 2), (10, 0, 2, 1, "across"), (2, 0, 8, 1, "across"), (0, 0, 2, 1, "across"))
        self.assertEqual(write_plan(plan), "plan 12 1 2\n0 0 2 1 across\n2 0 8 1 across\n10 0 2 1 across")
        self.assertEqual(read_plan(write_plan(plan)), plan)

    def test_read(self):
        plan = read_plan(HALF_TEXT)
        self.assertIsInstance(plan, Plan)
        self.assertEqual([plan, plan.size, plan.blocks], [HALF, (4, 2, 2), HALF.blocks])
        self.assertEqual({tuple(map(type, block)) for block in plan.blocks}, {(int, int, int, int, str)})

    def test_drawn_plans(self):
        numbers = Numbers(12)
        sizes = DRAWN_SIZES + ((BIG, BIG - 1, 5), (60, 41, 2), (BIG - 1, 6, 3), (401, 2, 2))
        for size in sizes:
            for _ in range(3):
                plan = drawn_plan(numbers, size)
                text = write_plan(plan)
                head, *lines = text.split("\n")
                with self.subTest(text=text):
                    self.assertEqual(head, "plan %d %d %d" % size)
                    self.assertEqual(lines, ["%d %d %d %d %s" % block for block in plan.blocks])
                    self.assertEqual(read_plan(text), plan)
                    self.assertEqual(write_plan(read_plan(text)), text)

    def test_64_blocks_and_one_more(self):
        for many in (64, 65):
            text = f"plan 2 {many} 2" + "".join(f"\n0 {y} 2 1 across" for y in range(many))
            if many == 64:
                self.assertEqual([len(read_plan(text)), write_plan(read_plan(text))], [64, text])
            else:
                self.no_text(read_plan, text)

    def test_what_is_no_plan(self):
        for plan in odd_values() + [five(), HALF_TEXT, (4, 2, 2), HALF.blocks, 0]:
            with self.subTest(plan=plan), self.assertRaises(InvalidPlan):
                write_plan(plan)

    def test_what_is_no_string(self):
        for text in NO_STRINGS:
            self.no_text(read_plan, text)

    def test_first_lines_without_their_form(self):
        heads = ["", " ", "plan", "plan 4 2", "plan 4 2 2 2", "plan 4 2 2 ", " plan 4 2 2", "plan  4 2 2", "plan 4  2 2",
                 "Plan 4 2 2", "plans 4 2 2", "floor 4 2 2", "4 2 2", "plan\t4 2 2", "0 0 2 2 down"]
        for place in range(3):
            for word in WRONG_NUMBERS:
                words = ["4", "2", "2"]
                words[place] = word
                heads.append("plan " + " ".join(words))
        for head in heads:
            self.no_form(read_plan, head + HALF_TEXT[len("plan 4 2 2"):], 0)
            self.no_form(read_plan, head, 0)
            self.no_form(read_plan, head + "\n\n", 0)
        self.no_form(read_plan, FIVE_TEXT, 0)
        self.no_form(read_plan, "\n" + HALF_TEXT, 0)

    def test_block_lines_without_their_form(self):
        wrong = ["", " ", "0 0 2 2", "0 0 2 down", "0 0 2 2 2", "0 0 2 2 down ", " 0 0 2 2 down", "0  0 2 2 down",
                 "0 0 2 2  down", "0 0 2 2 Down", "0 0 2 2 up", "0 0 2 2 upright", "down 0 0 2 2", "0 0 2 2 down down",
                 "0 0 2 2 2 down", "0,0,2,2,down", "plan 4 2 2", "v>-v", "0 0 2 2 acros", "0 0 2 2 ", "across", "0 0 2 2 v"]
        for place in range(4):
            for word in WRONG_NUMBERS:
                words = ["0", "0", "2", "2"]
                words[place] = word
                wrong.append(" ".join(words) + " down")
        for line in wrong:
            for at in (1, 2):
                lines = HALF_TEXT.split("\n")
                lines[at] = line
                self.no_form(read_plan, "\n".join(lines), at)
        self.no_form(read_plan, "plan 4 2 2\n0 0 2 2 down\n?\n?", 2)
        self.no_form(read_plan, "plan 4 2 2\n9 9 9 9 down\n9 9 9 9 across\n1", 3)
        self.no_form(read_plan, "plan 0 0 0\n0 0 2 2 down\n", 2)

    def test_a_newline_at_the_end_and_empty_lines(self):
        self.no_form(read_plan, HALF_TEXT + "\n", 3)
        self.no_form(read_plan, HALF_TEXT + "\n\n", 3)
        self.no_form(read_plan, HALF_TEXT.replace("\n", "\n\n"), 1)
        self.no_form(read_plan, "plan 4 2 2\n", 1)

    def test_blocks_in_another_order(self):
        self.no_text(read_plan, "plan 4 2 2\n2 0 2 2 across\n0 0 2 2 down")
        self.no_text(read_plan, "plan 12 1 2\n0 0 2 1 across\n10 0 2 1 across\n2 0 8 1 across")
        self.no_text(read_plan, "plan 2 2 2\n0 1 2 1 across\n0 0 2 1 across")

    def test_what_is_no_text_of_a_plan(self):
        for text in ("plan 4 2 2", "plan 4 2 2\n0 0 2 2 down", "plan 4 2 2\n2 0 2 2 across", HALF_TEXT + "\n2 0 2 2 across",
                     "plan 4 2 2\n0 0 2 2 down\n2 0 2 2 across\n4 0 2 2 across", "plan 4 2 3\n0 0 2 2 down\n2 0 2 2 across",
                     "plan 5 2 2\n0 0 2 2 down\n2 0 2 2 across", "plan 4 2 2\n0 0 3 2 down\n2 0 2 2 across",
                     "plan 4 2 2\n0 0 2 2 down\n2 0 2 0 across", "plan 0 0 2\n0 0 2 2 down", "plan 2 1 1\n0 0 2 1 across",
                     f"plan {FORTY} 2 2\n0 0 {FORTY} 2 down", f"plan 2 1 2\n{FORTY} 0 2 1 across", "plan 0 0 0",
                     f"plan {BIG + 1} 2 2\n0 0 {BIG + 1} 2 down", f"plan 2 1 2\n0 0 2 {FORTY} across",
                     "plan 2 1 2\n0 0 2 1 down", "plan 3 3 2\n0 0 3 3 across"):
            self.no_text(read_plan, text)

    def test_an_integer_of_forty_digits_has_its_form(self):
        self.no_text(read_plan, f"plan 2 1 2\n0 {FORTY} 2 1 across")
        self.no_form(read_plan, f"plan 2 1 2\n0 {FORTY_ONE} 2 1 across", 1)


class Both(unittest.TestCase):
    def test_arguments_stay_and_equal_calls_return_equal_texts(self):
        floor, plan = five(), read_plan(HALF_TEXT)
        for _ in range(2):
            self.assertEqual([write_floor(floor), write_plan(plan)], [FIVE_TEXT, HALF_TEXT])
            self.assertEqual([floor, plan], [read_floor(FIVE_TEXT), HALF])

    def test_defined_in_this_module(self):
        for name in ("write_floor", "read_floor", "write_plan", "read_plan"):
            self.assertEqual(getattr(texts, name).__module__, "bondfloors.text.texts")

    def test_examples(self):
        self.assertEqual(
            [write_floor(Floor.plain((3, 2, 3))), read_floor("floor 1 2 2\nv\n|").bars,
             write_plan(Plan((3, 2, 3), (0, 0, 3, 2, "across")))],
            ["floor 3 2 3\n>--\n>--", ((0, 0, "down"),), "plan 3 2 3\n0 0 3 2 across"],
        )
        self.assertEqual(write_floor(HALF.laid()), "floor 4 2 2\nvv>-\n||>-")
        self.assertEqual(read_floor("floor 6 5 2\nv>-v>-\n|>-|vv\nvv>-||\n||v>-v\n>-|>-|"), five())


if __name__ == "__main__":
    unittest.main()
