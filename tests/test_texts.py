"""Point 39."""

import itertools
import re
import unittest

from rimsteps.errors import NoRound, NoText, RimError
from rimsteps.moves import moved
from rimsteps.reading import is_round
from rimsteps.rounds import rounds
from rimsteps.texts import read_rounds, show_round, show_rounds
from tests.helper import (
    FAR, MOST, all_pictures, drawn, far_cells, great_lists, great_rounds, refused_at, slow_refusal, some_pictures,
)

LONE = ("rim", 0, 0, ())
RING = rounds(drawn("###", "#.#", "###"))
GOOD = "rim 0 0 0246"
NUMBER = re.compile(r"(0|-?[1-9][0-9]{0,29})")
RUNS = re.compile(r"\*[0-7](x[1-9][0-9]*)?(\.[0-7](x[1-9][0-9]*)?)*")


def slow_row(row):
    """The row as it is to be written."""
    if not row:
        return "-"
    figures = "".join("01234567"[step] for step in row)
    runs = []
    for step, some in itertools.groupby(figures):
        many = len(list(some))
        runs.append(step if many == 1 else step + "x" + str(many))
    written = "*" + ".".join(runs)
    return min(figures, written, key=len)


def slow_steps(word):
    """The row that is written so; None where none is."""
    if word == "-":
        return ()
    if re.fullmatch(r"[0-7]{1,240}", word):
        row = tuple(int(sign) for sign in word)
    elif RUNS.fullmatch(word):
        runs = [part.split("x") + ["1"] for part in word[1:].split(".")]
        if sum(int(run[1]) for run in runs) > 240:
            return None
        row = tuple(int(run[0]) for run in runs for again in range(int(run[1])))
    else:
        return None
    return row if slow_row(row) == word else None


def slow_place(text):
    """The row and word at which a text is refused, None where each word is written as it should be."""
    for at, row in enumerate(text.split("\n") if text else []):
        words = row.split(" ")
        good = [
            lambda word: word in ("rim", "hole"),
            lambda word: NUMBER.fullmatch(word),
            lambda word: NUMBER.fullmatch(word),
            lambda word: slow_steps(word) is not None,
        ]
        for place in range(5):
            if place == 4 and len(words) == 4:
                break
            if place == 4 or place == len(words) or not good[place](words[place]):
                return (at, place)
    return None


def refused_text(case, text):
    """The row and word of the refusal."""
    with case.assertRaises(NoText) as caught:
        read_rounds(text)
    case.assertIs(type(caught.exception), NoText)
    return (caught.exception.row, caught.exception.word)


class Written(unittest.TestCase):
    def test_known_ones(self):
        self.assertEqual(show_round(LONE), "rim 0 0 -")
        self.assertEqual(show_round(("hole", 1, 0, (3, 1, 7, 5))), "hole 1 0 3175")
        self.assertEqual(show_round(("rim", -7, 12, (0, 0, 0, 2, 4, 4, 4, 6))), "rim -7 12 00024446")
        self.assertEqual(show_round(("rim", 0, 0, (0,) * 3 + (2,) + (4,) * 3 + (6,))), "rim 0 0 00024446")
        self.assertEqual(show_round(("rim", 0, 0, (0,) * 9 + (2,) + (4,) * 9 + (6,))), "rim 0 0 *0x9.2.4x9.6")
        self.assertEqual(show_round(("rim", 0, 0, (0,) * 12 + (4,) * 12)), "rim 0 0 *0x12.4x12")
        self.assertEqual(show_round(("rim", 0, 0, (0,) * 120 + (4,) * 120)), "rim 0 0 *0x120.4x120")

    def test_figures_where_both_have_as_many_signs(self):
        # *2x3.6x3 has eight signs, six figures are fewer; *2x4.6x4 has as many as the figures; then it has fewer.
        for many, word in ((3, "222666"), (4, "22226666"), (5, "*2x5.6x5")):
            self.assertEqual(show_round(("rim", 0, 0, (2,) * many + (6,) * many)), "rim 0 0 " + word)
        # Ten and more need a figure more: *0x10 is written for ten.
        self.assertEqual(show_round(("rim", 0, 0, (0,) * 10 + (4,) * 10)), "rim 0 0 *0x10.4x10")

    def test_a_run_of_one_without_x(self):
        self.assertEqual(show_round(("rim", 0, 0, (0,) * 8 + (3, 4, 4, 4, 4, 4, 4, 5))), "rim 0 0 *0x8.3.4x6.5")

    def test_a_run_of_two(self):
        one = ("rim", 0, 0, (0,) * 9 + (2, 2) + (4,) * 9 + (6, 6))
        self.assertEqual(show_round(one), "rim 0 0 *0x9.2x2.4x9.6x2")
        self.assertEqual(read_rounds(show_round(one)), [one])

    def test_each_floor(self):
        for width, height in itertools.product(range(1, 14), range(1, 14)):
            row = (0,) * (width - 1) + (2,) * (height - 1) + (4,) * (width - 1) + (6,) * (height - 1)
            self.assertEqual(show_round(("rim", 0, 0, row)), "rim 0 0 " + slow_row(row))
            self.assertEqual(read_rounds("rim 0 0 " + slow_row(row)), [("rim", 0, 0, row)])

    def test_numbers(self):
        for x, y in ((0, 0), (-1, 1), (-10, 100), (MOST, -MOST), (-MOST, 0), (FAR, -FAR)):
            self.assertEqual(show_round(("rim", x, y, ())), f"rim {x} {y} -")
        self.assertEqual(show_round(("rim", MOST, -MOST, ())), "rim " + "9" * 30 + " -" + "9" * 30 + " -")

    def test_many_rounds(self):
        self.assertEqual(show_rounds([]), "")
        self.assertEqual(show_rounds([LONE]), "rim 0 0 -")
        self.assertEqual(show_rounds(RING), "rim 0 0 00224466\nhole 1 0 3175")

    def test_any_ones_in_any_order(self):
        self.assertEqual(show_rounds(RING[::-1]), "hole 1 0 3175\nrim 0 0 00224466")
        self.assertEqual(show_rounds([LONE, LONE, ("hole", 5, 5, (3, 1, 7, 5))]), "rim 0 0 -\nrim 0 0 -\nhole 5 5 3175")

    def test_each_row_of_many_rounds(self):
        for picture in itertools.chain(all_pictures(3, 3), some_pictures(9, 7, 60)):
            for one in rounds(picture):
                sort, x, y, row = one
                self.assertEqual(show_round(one), f"{sort} {x} {y} {slow_row(row)}")
        for one in great_rounds():
            self.assertEqual(show_round(one).split(" ")[3], slow_row(one[3]))


class ReadBack(unittest.TestCase):
    def check(self, some):
        told = read_rounds(show_rounds(some))
        self.assertEqual(told, some)
        self.assertEqual([type(told)] + [type(one) for one in told], [list] + [tuple] * len(some))
        self.assertEqual({(type(one[3]), type(one[1])) for one in told} or {(tuple, int)}, {(tuple, int)})

    def test_none(self):
        self.assertEqual(read_rounds(""), [])

    def test_what_is_written_is_read_back(self):
        for picture in itertools.chain(all_pictures(3, 3), some_pictures(9, 7, 60)):
            self.check(rounds(picture))
        for some in great_lists().values():
            self.check(some)
        self.check(great_rounds())
        self.check([moved(one, -MOST, -MOST) for one in RING])
        self.check([("rim", -MOST, MOST, ()), ("rim", 0, -1, ())])

    def test_in_its_order(self):
        self.check(RING[::-1])
        self.check([("rim", 5, 0, ()), ("rim", 0, 0, ()), ("rim", 3, -9, ())])

    def test_the_same_one_twice_and_rounds_of_no_one_picture(self):
        self.check([LONE, LONE])
        self.check([RING[1]])
        self.check([("rim", 0, 0, (0, 4)), ("rim", 1, 0, (0, 4))])
        self.check([LONE, ("rim", 1, 1, ())])

    def test_each_kind_of_row(self):
        self.assertEqual(read_rounds("rim 0 0 *0x12.4x12"), [("rim", 0, 0, (0,) * 12 + (4,) * 12)])
        self.assertEqual(read_rounds("rim -3 10 *0x9.2.4x9.6"), [("rim", -3, 10, (0,) * 9 + (2,) + (4,) * 9 + (6,))])
        self.assertEqual(read_rounds("rim 0 0 22226666"), [("rim", 0, 0, (2,) * 4 + (6,) * 4)])
        self.assertEqual(read_rounds("rim 0 0 *2x120.6x120"), [("rim", 0, 0, (2,) * 120 + (6,) * 120)])


class Refused(unittest.TestCase):
    def at_word(self, place, words, also):
        """Each of the words in the place of a good one, in the first row and in a later one."""
        for word in words:
            row = GOOD.split(" ")
            row[place] = word
            row = " ".join(row)
            for text, at in ((row, 0), (GOOD + "\n" + row, 1), (row + "\n" + GOOD, 0), (row + "\nbad", 0)):
                self.assertEqual(refused_text(self, text), (at, place), text)
                self.assertEqual(slow_place(text), (at, place), text)
        for word in also:
            row = GOOD.split(" ")
            row[place] = word
            self.assertIsNone(slow_place(" ".join(row)))
            try:
                read_rounds(" ".join(row))
            except NoRound:
                pass

    def test_straight_under_RimError(self):
        self.assertEqual((NoText.__bases__, NoRound.__bases__), ((RimError,), (RimError,)))

    def test_another_sort(self):
        self.at_word(0, ["Rim", "RIM", "rims", "ri", "holes", "Hole", "", "-", "0", "rim,", "rim\t", "rimhole"],
                     ["rim", "hole"])

    def test_numbers(self):
        wrong = ["", "-", "--1", "+1", "01", "00", "-0", "-01", "1.0", "1_0", "0x1", "a", "1a", "1,", "\t1", "1\t",
                 "1-", "1" + "0" * 30, "-1" + "0" * 30, "0" * 31, "9" * 31, "9" * 3900]
        right = ["0", "1", "-1", "10", "-10", "9" * 30, "-" + "9" * 30, "1" + "0" * 29]
        self.at_word(1, wrong, right)
        self.at_word(2, wrong, right)

    def test_rows_of_figures(self):
        self.at_word(3, ["", "8", "0249", "8246", "024 ".strip() + "a", "0,2", "0-", "-0", "--", "+", "02.46", "0x2",
                         "0246\t", "0246\r", "x", "."], ["-", "0", "7", "01234567"])

    def test_figures_where_runs_have_fewer(self):
        self.at_word(3, ["00000", "2" * 5 + "6" * 5, "0" * 240, "0" * 12 + "4" * 12], ["0000", "2" * 4 + "6" * 4])

    def test_runs_where_figures_have_no_more(self):
        self.at_word(3, ["*0x4", "*0.2.4.6", "*0", "*0x2", "*2x4.6x4", "*0x3.2.4x3.6", "*", "*-"],
                     ["*0x5", "*2x5.6x5", "*0x9.2.4x9.6"])

    def test_runs_that_are_none(self):
        wrong = ["*0x9.2x1.4x9.6", "*0x9.2x0.4x9.6", "*0x09.2.4x9.6", "*0x02.4x9", "*0x9.2x.4x9.6", "*0x9.x9.4x9",
                 "*0x9.0x9", "*0x9.0", "*0.0x9", "*0x9.4x9.4x9", "*.0x9.4x9", "*0x9.4x9.", "*0x9..4x9", "*..",
                 "**0x9.4x9", "*0x9.4x9*", "0x9.4x9", "*8x9.4x9", "*0x9.9x9", "*00x9.4x9", "*0x9.44x9", "*0x-9.4x9",
                 "*0x+9.4x9", "*0X9.4x9", "*0x9,4x9", "*0xx9.4x9", "*0x9x9", "*0x9.4xa", "*0x9.4x9-", "*-0x9.4x9",
                 "*0x9.4x 9".replace(" ", "_")]
        self.at_word(3, wrong, ["*0x9.4x9"])

    def test_more_than_240_steps(self):
        self.at_word(3, ["0" * 241, "01" * 121, "*0x241", "*0x120.4x121", "*0x1000", "*0x999", "*0x" + "9" * 30,
                         "*0x" + "9" * 3900, "*0x" + "1" + "0" * 200, ".".join(["*0x200"] + ["4x200", "0x200"] * 50)],
                     ["*0x240", "*0x120.4x120", "01" * 120, "*0x119.4x121"])
        # Of 240 steps it is a row, though no round's.
        self.assertEqual(refused_at(self, read_rounds, "rim 0 0 *0x240", NoRound), 240)

    def test_blanks_too_many(self):
        for text, place in ((" rim 0 0 -", (0, 0)), ("rim  0 0 -", (0, 1)), ("rim 0  0 -", (0, 2)),
                            ("rim 0 0  -", (0, 3)), ("rim 0 0 - ", (0, 4)), (" ", (0, 0)), ("  ", (0, 0)),
                            ("rim ", (0, 1)), ("rim 0 0 ", (0, 3)), (GOOD + "\n rim 0 0 -", (1, 0)),
                            (GOOD + " \n" + GOOD, (0, 4))):
            self.assertEqual(refused_text(self, text), place, text)

    def test_a_word_too_many(self):
        for text, place in (("rim 0 0 - -", (0, 4)), ("rim 0 0 - x y z", (0, 4)), ("rim 0 0 0246 0246", (0, 4)),
                            (GOOD + "\nhole 1 0 3175 rim", (1, 4))):
            self.assertEqual(refused_text(self, text), place, text)

    def test_words_too_few(self):
        for text, place in (("rim", (0, 1)), ("rim 0", (0, 2)), ("rim 0 0", (0, 3)), ("hole 1 0", (0, 3)),
                            (GOOD + "\nrim 5", (1, 2)), ("0246", (0, 0)), ("rim 0246", (0, 1)), ("rim 0 -", (0, 2))):
            self.assertEqual(refused_text(self, text), place, text)

    def test_a_wrong_word_goes_ahead_of_one_too_many_or_too_few(self):
        self.assertEqual(refused_text(self, "rim x 0 - -"), (0, 1))
        self.assertEqual(refused_text(self, "rim x"), (0, 1))
        self.assertEqual(refused_text(self, "x"), (0, 0))

    def test_a_row_without_signs(self):
        for text, place in (("\n", (0, 0)), ("\n\n", (0, 0)), ("\n" + GOOD, (0, 0)), (GOOD + "\n", (1, 0)),
                            (GOOD + "\n\n" + GOOD, (1, 0)), (GOOD + "\n" + GOOD + "\n", (2, 0))):
            self.assertEqual(refused_text(self, text), place, text)

    def test_other_row_ends(self):
        for end, place in (("\r\n", (0, 3)), ("\r", (0, 3)), ("\n\r", (1, 0)), ("\x0b", (0, 3)), ("\x0c", (0, 3)),
                           ("\t", (0, 3)), (" / ", (0, 4)), ("/", (0, 3))):
            self.assertEqual(refused_text(self, GOOD + end + GOOD), place, end)

    def test_the_first_row_that_isn_t_so(self):
        self.assertEqual(refused_text(self, f"{GOOD}\nrim 0 0 9\nx 0 0 -"), (1, 3))
        self.assertEqual(refused_text(self, "\n".join([GOOD] * 50 + ["rim 0 -0 -"] + [GOOD] * 9)), (50, 2))

    def test_NoText_of_a_later_row_goes_ahead_of_NoRound(self):
        self.assertEqual(refused_text(self, "rim 0 0 0\nrim 0 0 9"), (1, 3))
        self.assertEqual(refused_text(self, "rim 0 0 0\n" + GOOD + "\n"), (2, 0))

    def test_then_NoRound_of_the_first_that_is_refused(self):
        self.assertEqual(refused_at(self, read_rounds, "rim 0 0 0", NoRound), 1)
        for text in ("rim 0 0 0044", "hole 0 0 -", "rim 0 0 0446\nrim 0 0 0", GOOD + "\nhole 0 0 0246\nrim 0 0 0",
                     "rim 0 0 0246\nrim 1 1 2024"):
            told = []
            for row in text.split("\n"):
                sort, x, y, word = row.split(" ")
                told.append(slow_refusal((sort, int(x), int(y), slow_steps(word))))
            first = [at for at in told if at is not None]
            if first:
                self.assertEqual(refused_at(self, read_rounds, text, NoRound), first[0], text)
            else:
                read_rounds(text)

    def test_words_changed_at_any_place(self):
        texts = ["rim 0 0 *0x9.2.4x9.6\nhole -1 10 3175\nrim 0 0 -", show_rounds(rounds(drawn("##", "#.")))]
        refusals = 0
        for text in texts:
            for at, sign in itertools.product(range(len(text) + 1), " \n-0189x.*r"):
                ahead, behind = text[:at], text[at + 1:]
                for other in (ahead + sign + text[at:], ahead + sign + behind, ahead + behind):
                    place = slow_place(other)
                    if place is not None:
                        self.assertEqual(refused_text(self, other), place, other)
                        refusals += 1
                        continue
                    rows = [row.split(" ") for row in other.split("\n")]
                    some = [(sort, int(x), int(y), slow_steps(word)) for sort, x, y, word in rows]
                    wrong = [slow_refusal(one) for one in some if slow_refusal(one) is not None]
                    if wrong:
                        self.assertEqual(refused_at(self, read_rounds, other, NoRound), wrong[0])
                    else:
                        self.assertEqual(read_rounds(other), some)
                        self.assertTrue(all(is_round(one) for one in some))
        self.assertGreater(refusals, 500)

    def test_far_cells(self):
        self.assertEqual(read_rounds(show_rounds(rounds(far_cells()))), rounds(far_cells()))


if __name__ == "__main__":
    unittest.main()
