"""Point 32: rows that ask, and what they are answered."""

import random
import re
import unittest

from helping import UTMOST, altered, broadest_of, plainly_read, plainly_seen, some_ladder, some_picture, some_streams
from liftwave import questions
from liftwave.bitrows import told
from liftwave.errors import NoLevel, NoPiece, NoRow, NoText
from liftwave.lifts import ladder_of
from liftwave.pieces import level, piece
from liftwave.questions import All, At, Bits, Broad, Level, Piece, Question, Size, ask, question, shown
from liftwave.streams import coded
from liftwave.texts import written

KINDS = {"size": Size, "bits": Bits, "broad": Broad, "at": At, "level": Level, "piece": Piece, "all": All}
NUMBER = "(0|[1-9][0-9]{0,3})"
ROW = re.compile(f"size|bits|broad|all|at {NUMBER} {NUMBER}|level {NUMBER}|piece {NUMBER} {NUMBER} {NUMBER} {NUMBER}")
ROWS = ("size", "bits", "broad", "at 0 1", "level 2", "piece 0 1 2 3", "all")
# One cell, 5: told as 1, its sign 0, 0 and 1.
FIVE = "liftwave 1 1 0 3 - j"
STILL = written(*coded([[5, -1], [0, 2]], (), 0))


def sheet_by_hand(sheet):
    rows = []
    for row in sheet:
        rows.append(" ".join(f"{low}" if low == high else f"{low}..{high}" for low, high in row))
    return "; ".join(rows)


def cut_texts(stream):
    """The text cut behind each of its letters, with the bits that are there and whether the stream is whole."""
    head, bits = stream
    text = written(head, bits)
    start = text.rindex(" ") + 1
    for cut in range(start, len(text) + 1):
        there = bits[:4 * (cut - start)]
        yield text[:cut], there, len(there) == len(bits)


class Shown(unittest.TestCase):
    def test_by_hand(self):
        self.assertEqual(shown([[(3, 3)]]), "3")
        self.assertEqual(shown([[(-3, 4)]]), "-3..4")
        self.assertEqual(shown([[(0, 0)]]), "0")
        self.assertEqual(shown([[(-7, -7)]]), "-7")
        self.assertEqual(shown([[(-7, -3)]]), "-7..-3")
        self.assertEqual(shown([[(-1, 0)]]), "-1..0")
        self.assertEqual(shown([[(0, 1)]]), "0..1")
        self.assertEqual(shown([[(1, 2), (3, 3)]]), "1..2 3")
        self.assertEqual(shown([[(1, 2)], [(3, 3)]]), "1..2; 3")
        self.assertEqual(shown([[(1, 2), (3, 3)], [(-4, -4), (-5, 60)], [(0, 0), (7, 8)]]), "1..2 3; -4 -5..60; 0 7..8")

    def test_as_many_figures_as_they_need(self):
        self.assertEqual(shown([[(10000, 123456)]]), "10000..123456")
        self.assertEqual(shown([[(-UTMOST, UTMOST), (UTMOST, UTMOST)]]), f"-{'9' * 300}..{'9' * 300} {'9' * 300}")
        great = 10 ** 1300
        self.assertEqual(shown([[(-great, great)]]), f"-1{'0' * 1300}..1{'0' * 1300}")

    def test_64_by_64(self):
        sheet = [[(i - j, i + j) for j in range(64)] for i in range(64)]
        self.assertEqual(shown(sheet), sheet_by_hand(sheet))

    def test_the_sheet_stays(self):
        sheet = [[(1, 2), (3, 3)], [(0, 0), (4, 5)]]
        shown(sheet)
        self.assertEqual(sheet, [[(1, 2), (3, 3)], [(0, 0), (4, 5)]])


class Rows(unittest.TestCase):
    def test_each_row_and_its_class(self):
        for row in ROWS:
            with self.subTest(row=row):
                self.assertIs(type(question(row)), KINDS[row.split(" ")[0]])

    def test_each_straight_under_question(self):
        for kind in KINDS.values():
            self.assertEqual(kind.__bases__, (Question,))
        self.assertIsInstance(Question(), questions.Question)

    def test_numbers(self):
        for word in ("0", "1", "9", "10", "63", "64", "100", "999", "1000", "9999"):
            for row in (f"at {word} 0", f"at 0 {word}", f"level {word}", f"piece {word} 0 1 1", f"piece 0 {word} 1 1",
                        f"piece 0 0 {word} 1", f"piece 0 0 1 {word}"):
                self.assertIs(type(question(row)), KINDS[row.split(" ")[0]])

    def test_odd_numbers(self):
        for word in ("-1", "-0", "00", "01", "007", "10000", "12345", "99999", "0" * 50, "1" * 50, "-", "+1", "x", "",
                     "1.0", "1,", "1;", "0x1", "one", "-9999", "1_0"):
            for row in (f"at {word} 0", f"at 0 {word}", f"level {word}", f"piece {word} 0 1 1", f"piece 0 {word} 1 1",
                        f"piece 0 0 {word} 1", f"piece 0 0 1 {word}"):
                self.refused(row)

    def refused(self, row):
        self.assertIsNone(ROW.fullmatch(row), row)
        with self.subTest(row=row):
            with self.assertRaises(NoRow):
                question(row)
            with self.assertRaises(NoRow):
                ask(FIVE, row)

    def test_too_many_and_too_few_words(self):
        for row in ("size 1", "bits 0", "broad 0", "all 0", "all all", "at", "at 0", "at 0 0 0", "level", "level 0 0",
                    "piece", "piece 0", "piece 0 0", "piece 0 0 1", "piece 0 0 1 1 1", "size size", "0", "0 0"):
            self.refused(row)

    def test_other_words(self):
        for row in ("Size", "SIZE", "BITS", "Bits", "Broad", "At 0 0", "AT 0 0", "Level 0", "Piece 0 0 1 1", "All",
                    "sizes", "siz", "bit", "broads", "level0", "at0 0", "al", "alle", "pieces 0 0 1 1", "breadth",
                    "whole", "cut", "liftwave", "?", "size?", "-", "none", "get", "size,", "at 0,0", "at,0,0"):
            self.refused(row)

    def test_blanks(self):
        for row in ROWS:
            self.refused(" " + row)
            self.refused(row + " ")
            self.refused(row.replace(" ", "  ") if " " in row else row + "  ")
            for at in [place for place, sign in enumerate(row) if sign == " "]:
                self.refused(row[:at] + "  " + row[at + 1:])
                self.refused(row[:at] + "\t" + row[at + 1:])
                self.refused(row[:at] + row[at + 1:] + " ")

    def test_the_empty_row(self):
        self.refused("")
        self.refused(" ")
        self.refused("  ")

    def test_twenty_thousand_signs(self):
        for row in ("a" * 20000, " " * 20000, "at " + "1" * 19000 + " 0", "piece" + " 1" * 9000, "size" + " " * 19000):
            self.refused(row)

    def test_each_row_that_is_one_sign_away(self):
        taken = 0
        for row in ROWS + ("at 0 9999", "level 10"):
            for other in altered(row):
                if ROW.fullmatch(other):
                    self.assertIs(type(question(other)), KINDS[other.split(" ")[0]], other)
                    taken += 1
                else:
                    with self.assertRaises(NoRow, msg=other):
                        question(other)
        self.assertGreater(taken, 100)


class ByHand(unittest.TestCase):
    def test_one_cell(self):
        asked = {"size": "1 1", "bits": "4 whole", "broad": "0", "at 0 0": "5", "level 0": "5", "piece 0 0 1 1": "5",
                 "all": "5"}
        for row, answer in asked.items():
            self.assertEqual(ask(FIVE, row), answer)
        asked = {"size": "1 1", "bits": "0 cut", "broad": "14", "at 0 0": "-7..7", "level 0": "-7..7",
                 "piece 0 0 1 1": "-7..7", "all": "-7..7"}
        for row, answer in asked.items():
            self.assertEqual(ask(FIVE[:-1], row), answer)

    def test_four_cells(self):
        self.assertEqual(ask(STILL, "size"), "2 2")
        self.assertEqual(ask(STILL, "all"), "5 -1; 0 2")
        self.assertEqual(ask(STILL, "at 0 1"), "-1")
        self.assertEqual(ask(STILL, "at 1 0"), "0")
        self.assertEqual(ask(STILL, "piece 0 1 2 1"), "-1; 2")
        self.assertEqual(ask(STILL, "piece 1 0 1 2"), "0 2")
        self.assertEqual(ask(STILL, "broad"), "0")
        self.assertEqual(ask(STILL, "level 0"), "5 -1; 0 2")

    def test_size_is_high_and_wide(self):
        self.assertEqual(ask(written(*coded([[1, 2, 3], [4, 5, 6]])), "size"), "2 3")
        self.assertEqual(ask("liftwave 64 1 0 3 - ", "size"), "64 1")
        self.assertEqual(ask("liftwave 1 64 0 0 - ", "size"), "1 64")

    def test_bits(self):
        self.assertEqual(ask("liftwave 3 4 0 0 - ", "bits"), "0 whole")
        self.assertEqual(ask("liftwave 3 4 0 9 - ", "bits"), "0 cut")
        self.assertEqual(ask("liftwave 3 4 0 9 - aa", "bits"), "8 cut")
        # The last three bits are filling and left out.
        self.assertEqual(ask("liftwave 3 4 0 9 - aaa", "bits"), "9 whole")
        self.assertEqual(ask("liftwave 64 64 6 4000 - " + "p" * 4000, "bits"), "16000 cut")

    def test_planes_0(self):
        text = "liftwave 2 2 1 0 - "
        asked = {"size": "2 2", "bits": "0 whole", "broad": "0", "all": "0 0; 0 0", "level 1": "0", "at 1 1": "0",
                 "piece 1 0 1 2": "0 0"}
        for row, answer in asked.items():
            self.assertEqual(ask(text, row), answer)

    def test_levels(self):
        text = written(*coded([[10, 20, 40], [12, 22, 43]], (), 2))
        self.assertEqual(ask(text, "level 0"), "10 20 40; 12 22 43")
        self.assertEqual(ask(text, "level 1"), "10 40")
        self.assertEqual(ask(text, "level 2"), "10")
        text = written(*coded([[10, 20, 40], [12, 22, 43]]))
        self.assertEqual(ask(text, "level 0"), "10 20 40; 12 22 43")
        self.assertEqual(ask(text, "level 1"), "9 40")


class Answers(unittest.TestCase):
    def check(self, stream, text, bits, whole):
        head = stream[0]
        spans = plainly_read(bits, head[0] * head[1], head[3])[0]
        sheet = plainly_seen(head, bits)
        self.assertEqual(ask(text, "size"), f"{head[0]} {head[1]}")
        self.assertEqual(ask(text, "bits"), f"{len(bits)} {'whole' if whole else 'cut'}")
        self.assertEqual(ask(text, "broad"), str(broadest_of(sheet)))
        self.assertEqual(ask(text, "all"), sheet_by_hand(sheet))
        for k in range(head[2] + 1):
            self.assertEqual(ask(text, f"level {k}"), sheet_by_hand(level(head, spans, k)))
        return spans, sheet

    def test_cut_behind_each_letter(self):
        chance = random.Random(320)
        for name in ("still", "pair", "line", "long"):
            for most in (1, 9, 90):
                stream = coded(some_picture(chance, chance.randint(1, 3), chance.randint(1, 3), most), ladder_of(name),
                               chance.randint(0, 3))
                for text, bits, whole in cut_texts(stream):
                    spans, sheet = self.check(stream, text, bits, whole)
                    for i, row in enumerate(sheet):
                        for j, span in enumerate(row):
                            self.assertEqual(ask(text, f"at {i} {j}"), sheet_by_hand([[span]]))

    def test_all_sorts_of_streams(self):
        for chance, picture, ladder, levels in some_streams(321):
            stream = coded(picture, ladder, levels)
            head = stream[0]
            texts = list(cut_texts(stream))
            for text, bits, whole in {texts[0], texts[-1], chance.choice(texts)}:
                spans, sheet = self.check(stream, text, bits, whole)
                top = chance.randrange(head[0])
                left = chance.randrange(head[1])
                high = chance.randint(1, head[0] - top)
                wide = chance.randint(1, head[1] - left)
                asked = [row[left:left + wide] for row in sheet[top:top + high]]
                self.assertEqual(piece(head, spans, top, left, high, wide), asked)
                self.assertEqual(ask(text, f"piece {top} {left} {high} {wide}"), sheet_by_hand(asked))
                self.assertEqual(ask(text, f"at {top} {left}"), sheet_by_hand([[sheet[top][left]]]))
                self.assertEqual(ask(text, f"piece 0 0 {head[0]} {head[1]}"), ask(text, "all"))

    def test_numbers_of_three_hundred_figures(self):
        picture = [[UTMOST, -UTMOST], [1, 0]]
        text = written(*coded(picture))
        self.assertEqual(ask(text, "all"), f"{UTMOST} {-UTMOST}; 1 0")
        self.assertEqual(ask(text, "at 0 1"), "-" + "9" * 300)
        for letters in (0, 1, 100, 500):
            self.check(coded(picture), text[:text.rindex(" ") + 1 + letters], coded(picture)[1][:4 * letters], False)

    def test_as_many_figures_as_can_be_needed(self):
        ladder = ((1, 8, 8, 64, 0), (0, 8, 8, 64, 0)) * 3
        head = (5, 6, 6, 4000, ladder)
        text = written(head, "")
        self.assertEqual(ask(text, "broad"), str(broadest_of(plainly_seen(head, ""))))
        self.assertGreater(len(ask(text, "broad")), 1230)
        text = written((1, 1, 0, 4000, ()), told([2 ** 4000 - 1], 4000))
        self.assertEqual(ask(text, "all"), str(2 ** 4000 - 1))

    def test_64_by_64(self):
        chance = random.Random(322)
        picture = some_picture(chance, 64, 64, 1)
        text = written(*coded(picture))
        self.assertEqual(ask(text, "size"), "64 64")
        self.assertEqual(ask(text, "all"), "; ".join(" ".join(str(cell) for cell in row) for row in picture))
        self.assertEqual(ask(text, "at 63 63"), str(picture[63][63]))
        self.assertEqual(ask(text, "piece 60 0 1 2"), f"{picture[60][0]} {picture[60][1]}")

    def test_asked_again_and_of_others_in_between(self):
        chance = random.Random(323)
        texts = [written(*coded(some_picture(chance, 3, 3, 20), some_ladder(chance, 2), 2)) for k in range(4)]
        texts.extend([text[:-5] for text in texts])
        rows = ("size", "bits", "broad", "at 1 2", "level 1", "piece 1 0 2 2", "all")
        before = [ask(text, row) for text in texts for row in rows]
        again = [ask(text, row) for row in reversed(rows) for text in reversed(texts)]
        for number, row in enumerate(rows):
            for place in range(len(texts)):
                at = (len(rows) - 1 - number) * len(texts) + len(texts) - 1 - place
                self.assertEqual(again[at], before[place * len(rows) + number])

    def test_one_question_of_several_streams(self):
        asked = [question(row) for row in ("size", "bits", "broad", "at 0 0", "level 0", "piece 0 0 1 1", "all")]
        head, bits = coded([[5]], (), 0)
        for turn in range(2):
            self.assertEqual([one.answer(head, bits, True) for one in asked],
                             ["1 1", "4 whole", "0", "5", "5", "5", "5"])
            self.assertEqual([one.answer((1, 2, 0, 1, ()), "", False) for one in asked],
                             ["1 2", "0 cut", "2", "-1..1", "-1..1 -1..1", "-1..1", "-1..1 -1..1"])

    def test_questions_made_by_themselves(self):
        head, bits = coded([[1, 2, 3], [4, 5, 6]])
        asked = ((Size(), "2 3"), (Bits(), f"{len(bits)} whole"), (Broad(), "0"), (At(1, 2), "6"), (At(i=0, j=1), "2"),
                 (Level(0), "1 2 3; 4 5 6"), (Level(k=0), "1 2 3; 4 5 6"), (Piece(0, 1, 2, 2), "2 3; 5 6"),
                 (Piece(top=1, left=0, high=1, wide=2), "4 5"), (All(), "1 2 3; 4 5 6"))
        for one, answer in asked:
            self.assertIsInstance(one, Question)
            self.assertEqual(one.answer(head, bits, True), answer)
            self.assertEqual(one.answer(head=head, bits=bits, whole=True), answer)


class Refusals(unittest.TestCase):
    def refused(self, error, text, row):
        """The row is one; what it asks for is refused when it is answered."""
        one = question(row)
        head, bits, whole = (2, 3, 1, 3, ()), "", False
        with self.subTest(row=row):
            with self.assertRaises(error):
                one.answer(head, bits, whole)
            with self.assertRaises(error):
                ask(text, row)

    def test_no_piece(self):
        for row in ("at 2 0", "at 0 3", "at 2 3", "at 9999 0", "at 0 9999", "piece 0 0 0 1", "piece 0 0 1 0",
                    "piece 0 0 0 0", "piece 0 0 3 1", "piece 0 0 1 4", "piece 2 0 1 1", "piece 0 3 1 1",
                    "piece 1 0 2 1", "piece 0 2 1 2", "piece 1 2 2 2", "piece 0 0 9999 9999", "piece 9999 9999 1 1",
                    "piece 2 0 0 1"):
            self.refused(NoPiece, "liftwave 2 3 1 3 - ", row)

    def test_the_last_places_are_there(self):
        for row in ("at 1 2", "piece 1 2 1 1", "piece 0 0 2 3", "piece 1 0 1 3", "piece 0 2 2 1"):
            ask("liftwave 2 3 1 3 - ", row)

    def test_no_level(self):
        for row in ("level 2", "level 6", "level 7", "level 9999"):
            self.refused(NoLevel, "liftwave 2 3 1 3 - ", row)
        for levels in range(7):
            text = f"liftwave 2 3 {levels} 3 - "
            ask(text, f"level {levels}")
            with self.assertRaises(NoLevel):
                ask(text, f"level {levels + 1}")

    def test_whatever_bits_are_there(self):
        for text in (FIVE, FIVE[:-1]):
            for row, error in (("at 0 1", NoPiece), ("at 1 0", NoPiece), ("piece 0 0 1 2", NoPiece),
                               ("level 1", NoLevel)):
                with self.assertRaises(error):
                    ask(text, row)

    def test_made_with_any_whole_numbers(self):
        head = (2, 3, 1, 3, ())
        for one in (At(-1, 0), At(0, -1), At(UTMOST, 0), Piece(-1, 0, 1, 1), Piece(0, 0, -1, 1),
                    Piece(0, 0, 1, UTMOST)):
            with self.assertRaises(NoPiece):
                one.answer(head, "", False)
        for one in (Level(-1), Level(UTMOST)):
            with self.assertRaises(NoLevel):
                one.answer(head, "", False)

    def test_the_text_is_looked_at_first(self):
        for text in ("", "liftwave", "liftwave 1 1 0 3 -", "liftwave 1 1 0 3 - k1", "liftwave 1 1 0 3 - ja",
                     "liftwave 0 1 0 3 - ", " " + FIVE):
            for row in ROWS + ("", "sizes", "at 0", "at 00 0", "level -1", "size ", "at 5 5", "level 6"):
                with self.subTest(text=text, row=row):
                    with self.assertRaises(NoText):
                        ask(text, row)

    def test_then_the_row(self):
        for text in (FIVE, FIVE[:-1]):
            for row in ("", "sizes", "at 0", "at 00 0", "at 5 05", "level -1", "size ", "piece 9 9 9", "level 06"):
                with self.subTest(text=text, row=row):
                    with self.assertRaises(NoRow):
                        ask(text, row)

    def test_after_a_refusal_answers_are_as_before(self):
        before = ask(STILL, "all")
        for text, row in ((STILL, "at 9 9"), (STILL, "level 9"), (STILL, "nothing"), ("nothing", "all")):
            with self.assertRaises(ValueError):
                ask(text, row)
            self.assertEqual(ask(STILL, "all"), before)


if __name__ == "__main__":
    unittest.main()
