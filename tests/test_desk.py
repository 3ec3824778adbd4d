"""Point 41."""

import unittest

from rimsteps.desk import Desk
from rimsteps.errors import NoCell, NoRound, NoRounds, NoRow, NoText, RimError, TooWide, Twice
from rimsteps.names import shape
from rimsteps.rounds import rounds
from rimsteps.texts import read_rounds, show_rounds
from rimsteps.thin import thinned
from tests.helper import (
    ALL_CLASSES, FAR, MOST, drawn, far_cells, floor, great_cells, in_order, mirrored_cells, moved_cells, slow_around,
    slow_holes, slow_pieces, slow_refusal, some_pictures, square_ring, turned_cells,
)

RING = drawn("###", "#.#", "###")
NESTED = in_order(square_ring(5, 0) + [(2, 2)])


def text_of(picture):
    """The rounds of the picture as the desk shows and reads them."""
    return show_rounds(rounds(picture)).replace("\n", " / ") or "-"


def desk_with(picture):
    desk = Desk()
    desk.say("read " + text_of(picture) if picture else "read")
    return desk


def refused(case, desk, row, kind):
    """The refusal; it changes nothing, neither the rounds nor what undo does."""
    kept, past = desk.rounds(), list(desk.past)
    with case.assertRaises(kind, msg=row) as caught:
        desk.say(row)
    case.assertIs(type(caught.exception), kind, row)
    case.assertEqual((desk.rounds(), desk.past), (kept, past))
    return caught.exception


def refused_text(case, desk, row):
    why = refused(case, desk, row, NoText)
    return (why.row, why.word)


class SlowDesk:
    """A desk that keeps cells, and the cells of earlier on."""

    def __init__(self):
        self.cells, self.past = [], []

    def keep(self, cells):
        if len(cells) > 120:
            raise TooWide()
        self.past.append(self.cells)
        self.cells = in_order(cells)
        return "ok"

    def say(self, row):
        word, *others = row.split(" ")
        numbers = [int(other) for other in others]
        return getattr(self, "say_" + word)(*numbers)

    def change(self, cells):
        before = rounds(self.cells)
        self.keep(cells)
        behind = rounds(self.cells)
        return f"gone {len(set(before) - set(behind))} come {len(set(behind) - set(before))}"

    def say_put(self, x, y):
        if (x, y) in self.cells:
            raise Twice()
        return self.change(self.cells + [(x, y)])

    def say_take(self, x, y):
        if (x, y) not in self.cells:
            raise NoCell()
        return self.change([cell for cell in self.cells if cell != (x, y)])

    def say_move(self, dx, dy):
        return self.keep(moved_cells(self.cells, dx, dy))

    def say_turn(self, quarters):
        return self.keep(turned_cells(self.cells, quarters))

    def say_mirror(self):
        return self.keep(mirrored_cells(self.cells))

    def say_great(self, times):
        return self.keep(great_cells(self.cells, times))

    def say_show(self):
        return text_of(self.cells)

    def say_cells(self):
        return str(len(self.cells))

    def say_pieces(self):
        return str(len(slow_pieces(self.cells)))

    def say_holes(self):
        return str(len(slow_holes(self.cells)))

    def say_in(self, at):
        told = slow_around(self.cells, rounds(self.cells))[at]
        return "-" if told is None else str(told)

    def say_shape(self, at):
        return "".join(str(step) for step in shape(rounds(self.cells)[at])[1]) or "-"

    def say_like(self, at, other):
        some = rounds(self.cells)
        return "yes" if shape(some[at]) == shape(some[other]) else "no"

    def say_thin(self, bound):
        some = rounds(self.cells)
        if sum(len(one[3]) for one in some) > 40:
            raise TooWide()
        return " ".join(str(len(corners)) for corners in thinned(some, bound)) or "-"

    def say_undo(self):
        if not self.past:
            return "none"
        self.cells = self.past.pop()
        return "ok"


class Rows(unittest.TestCase):
    def said(self, desk, pairs):
        for row, answer in pairs:
            told = desk.say(row)
            self.assertEqual((told, type(told)), (answer, str), row)

    def test_none_at_first(self):
        desk = Desk()
        self.assertEqual(desk.rounds(), [])
        self.said(desk, [("show", "-"), ("cells", "0"), ("pieces", "0"), ("holes", "0"), ("thin 0", "-"),
                         ("undo", "none"), ("thin 1000000", "-")])

    def test_put_and_take(self):
        desk = Desk()
        self.said(desk, [("put 0 0", "gone 0 come 1"), ("put 1 0", "gone 1 come 1"), ("put 5 -5", "gone 0 come 1"),
                         ("put 3 0", "gone 0 come 1"), ("put 2 0", "gone 2 come 1")])
        self.assertEqual(desk.rounds(), rounds([(5, -5)] + floor(4, 1)))
        self.said(desk, [("take 1 0", "gone 1 come 2"), ("take 5 -5", "gone 1 come 0"), ("undo", "ok"), ("undo", "ok")])
        self.assertEqual(desk.rounds(), rounds([(5, -5)] + floor(4, 1)))

    def test_each_row_and_undo_of_it(self):
        for picture in (RING, NESTED, drawn("##.", "#.#"), [(FAR, -FAR)]):
            some = rounds(picture)
            first = picture[0]
            for row, behind in (
                (f"put {first[0] - 1} {first[1]}", picture + [(first[0] - 1, first[1])]),
                (f"take {first[0]} {first[1]}", picture[1:]),
                ("move 3 -4", moved_cells(picture, 3, -4)),
                (f"move {FAR} {-FAR}", moved_cells(picture, FAR, -FAR)),
                ("turn 1", turned_cells(picture, 1)),
                ("turn 2", turned_cells(picture, 2)),
                ("turn 3", turned_cells(picture, 3)),
                ("mirror", mirrored_cells(picture)),
                ("great 2", great_cells(picture, 2)),
                ("read rim 7 7 -", [(7, 7)]),
                ("read", []),
            ):
                desk = desk_with(picture)
                told = desk.say(row)
                self.assertRegex(told, r"^gone [0-9]+ come [0-9]+$" if row[0] in "p" or row[:2] == "ta" else "^ok$")
                self.assertEqual(desk.rounds(), rounds(in_order(behind)), row)
                self.assertEqual(desk.say("undo"), "ok")
                self.assertEqual(desk.rounds(), some)
                self.assertEqual(desk.say("undo"), "ok")
                self.assertEqual(desk.rounds(), [])
                self.assertEqual(desk.say("undo"), "none")

    def test_what_changes_nothing_is_undone_alone(self):
        for row in ("move 0 0", "turn 0", "great 1"):
            desk = desk_with(RING)
            self.said(desk, [("put 9 9", "gone 0 come 1"), (row, "ok")])
            self.assertEqual(desk.rounds(), rounds(RING + [(9, 9)]))
            self.said(desk, [("undo", "ok")])
            self.assertEqual(desk.rounds(), rounds(RING + [(9, 9)]))
            self.said(desk, [("undo", "ok")])
            self.assertEqual(desk.rounds(), rounds(RING))
            empty = Desk()
            self.said(empty, [(row, "ok"), ("undo", "ok"), ("undo", "none")])
        self.said(Desk(), [("mirror", "ok"), ("read", "ok"), ("undo", "ok"), ("undo", "ok"), ("undo", "none")])

    def test_undo_many_times(self):
        desk = Desk()
        past = []
        for at in range(40):
            past.append(desk.rounds())
            desk.say(f"put {at * at} {at}")
        for some in reversed(past):
            self.assertEqual(desk.say("undo"), "ok")
            self.assertEqual(desk.rounds(), some)
        self.said(desk, [("undo", "none"), ("undo", "none"), ("put 0 0", "gone 0 come 1"), ("undo", "ok"),
                         ("undo", "none")])

    def test_undo_behind_a_refusal_and_behind_questions(self):
        desk = Desk()
        desk.say("put 0 0")
        desk.say("put 4 4")
        refused(self, desk, "put 0 0", Twice)
        refused(self, desk, "take 9 9", NoCell)
        refused(self, desk, "read rim 0 0 0", NoRound)
        refused(self, desk, "nothing", NoRow)
        for row in ("show", "cells", "pieces", "holes", "in 0", "shape 1", "like 0 1", "thin 5"):
            desk.say(row)
        self.assertEqual(desk.say("undo"), "ok")
        self.assertEqual(desk.rounds(), [("rim", 0, 0, ())])

    def test_undo_is_not_undone(self):
        desk = Desk()
        self.said(desk, [("put 0 0", "gone 0 come 1"), ("put 4 4", "gone 0 come 1"), ("undo", "ok"),
                         ("put 2 2", "gone 0 come 1"), ("undo", "ok"), ("undo", "ok"), ("undo", "none")])
        self.assertEqual(desk.rounds(), [])

    def test_show(self):
        self.said(desk_with(RING), [("show", "rim 0 0 00224466 / hole 1 0 3175")])
        self.said(desk_with(floor(13, 1)), [("show", "rim 0 0 *0x12.4x12")])
        self.said(desk_with([(MOST, -MOST)]), [("show", "rim " + "9" * 30 + " -" + "9" * 30 + " -")])

    def test_cells_pieces_and_holes(self):
        self.said(desk_with(RING), [("cells", "8"), ("pieces", "1"), ("holes", "1")])
        self.said(desk_with(NESTED), [("cells", "17"), ("pieces", "2"), ("holes", "1")])
        self.said(desk_with(floor(12, 10)), [("cells", "120"), ("pieces", "1"), ("holes", "0")])
        desk = Desk()
        for x, y in far_cells():
            desk.say(f"put {x} {y}")
        self.said(desk, [("cells", "120"), ("pieces", "120"), ("holes", "0")])

    def test_in(self):
        desk = desk_with(NESTED)
        self.said(desk, [("in 0", "-"), ("in 1", "0"), ("in 2", "1")])

    def test_shape_by_figures(self):
        desk = desk_with(floor(30, 1) + [(50, 5), (0, 7), (0, 8)])
        self.said(desk, [("shape 0", "0" * 29 + "4" * 29), ("shape 1", "-"), ("shape 2", "04")])

    def test_like(self):
        desk = desk_with([(0, 0), (1, 0), (5, 5), (5, 6), (9, 9), (10, 10)])
        self.said(desk, [("like 0 1", "yes"), ("like 1 0", "yes"), ("like 0 2", "no"), ("like 2 2", "yes"),
                         ("like 0 0", "yes")])
        # A rim and a hole's round.
        self.said(desk_with(drawn(".#.", "#.#", ".#.")), [("like 0 1", "no"), ("like 1 1", "yes")])
        # Of one shape mirrored alone.
        self.said(desk_with(drawn("##.##", "#...#", "#...#")), [("like 0 1", "yes")])

    def test_thin(self):
        self.said(desk_with(floor(3, 3)), [("thin 0", "4"), ("thin 1000000", "1")])
        self.said(desk_with(RING), [("thin 0", "4 4"), ("thin 1000000", "1 1")])
        self.said(desk_with(floor(21, 1)), [("thin 0", "2")])
        refused(self, desk_with(floor(22, 1)), "thin 0", TooWide)
        refused(self, desk_with(floor(22, 1)), "thin 1000000", TooWide)
        far = desk_with(floor(11, 11)[:-11])
        self.said(far, [("thin 0", "4")])
        for picture in some_pictures(5, 4, 40):
            some = rounds(picture)
            if sum(len(one[3]) for one in some) <= 40:
                for bound in (0, 1, 3):
                    told = desk_with(picture).say(f"thin {bound}")
                    self.assertEqual(told, " ".join(str(len(corners)) for corners in thinned(some, bound)) or "-")

    def test_against_a_desk_of_cells(self):
        state = 7
        words = ["put {a} {b}", "put {a} {b}", "put {a} {b}", "take {a} {b}", "take {a} {b}", "move {a} {b}",
                 "turn {c}", "mirror", "great {d}", "undo", "undo", "show", "cells", "pieces", "holes", "thin {c}"]
        for picture in some_pictures(5, 4, 18):
            desk, slow = desk_with(picture), SlowDesk()
            slow.keep(picture)
            for turn in range(40):
                state = (state * 6364136223846793005 + 1442695040888963407) % 2 ** 64
                at, a, b, d = [(state >> shift) % 16 for shift in (20, 28, 36, 44)]
                row = words[at].format(a=a - 5, b=b - 5, c=a % 4, d=1 + d // 8)
                self.alike(desk, slow, row)
                for at in range(min(2, len(desk.rounds()))):
                    for question in (f"in {at}", f"shape {at}", f"like {at} 0"):
                        self.alike(desk, slow, question)

    def alike(self, desk, slow, row):
        try:
            answer = slow.say(row)
        except RimError as why:
            refused(self, desk, row, type(why))
        else:
            self.assertEqual(desk.say(row), answer, row)
        self.assertEqual(desk.rounds(), rounds(slow.cells))


class TooGreat(unittest.TestCase):
    def test_put_at_120_cells(self):
        for picture in (floor(12, 10), far_cells()):
            desk = Desk()
            for x, y in picture:
                desk.say(f"put {x} {y}")
            refused(self, desk, "put 50 50", TooWide)
            refused(self, desk, f"put {picture[7][0]} {picture[7][1]}", Twice)
            refused(self, desk, "take 50 50", NoCell)
            self.assertRegex(desk.say(f"take {picture[0][0]} {picture[0][1]}"), "^gone 1 come")
            self.assertRegex(desk.say("put 50 50"), "^gone 0 come 1$")

    def test_great(self):
        desk = desk_with(floor(6, 5))
        refused(self, desk, "great 3", TooWide)
        refused(self, desk, "great 4", TooWide)
        self.assertEqual(desk.say("great 2"), "ok")
        self.assertEqual(desk.say("cells"), "120")
        refused(self, desk, "great 2", TooWide)
        self.assertEqual(desk.say("great 1"), "ok")
        for many, times in ((30, 2), (31, 2), (13, 3), (14, 3), (7, 4), (8, 4)):
            fits = many * times * times <= 120
            desk = desk_with(floor(many, 1))
            if fits:
                self.assertEqual(desk.say(f"great {times}"), "ok")
                self.assertEqual(desk.rounds(), rounds(great_cells(floor(many, 1), times)))
            else:
                refused(self, desk, f"great {times}", TooWide)

    def test_read(self):
        self.assertEqual(desk_with(floor(12, 10)).say("cells"), "120")
        for picture in (floor(11, 11), floor(121, 1), floor(40, 40)):
            refused(self, desk_with(RING), "read " + text_of(picture), TooWide)
        # The hole's cells don't count.
        ring = in_order(square_ring(31, 0))
        self.assertEqual(desk_with(ring).say("cells"), "120")
        refused(self, Desk(), "read " + text_of(in_order(square_ring(32, 0))), TooWide)

    def test_thin(self):
        # 40 steps, and 41.
        self.assertEqual(desk_with(floor(12, 10)).say("thin 0"), "4")
        more = floor(13, 9) + [(0, 9)]
        self.assertEqual([len(one[3]) for one in rounds(more)], [41])
        refused(self, desk_with(more), "thin 0", TooWide)
        desk = desk_with(floor(21, 1))
        desk.say("put 9 9")
        self.assertEqual(desk.say("thin 0"), "2 1")
        desk.say("put 10 9")
        refused(self, desk, "thin 0", TooWide)


class NoRows(unittest.TestCase):
    def test_rows_that_are_none(self):
        desk = desk_with(NESTED)
        for row in (
            "", " ", "nothing", "Put 1 1", "PUT 1 1", "put", "put 9", "put 9 9 9", "put  9 9", "put 9  9", " put 9 9",
            "put 9 9 ", "put 9,9", "put\t9 9", "put 09 9", "put 9 -0", "put +9 9", "put 9 x", "put 9 1.5", "puts 9 9",
            "take", "take 0", "take 0 0 0", "taken 0 0", "Take 0 0", "take 0 00", "take -0 0",
            "move", "move 1", "move 1 1 1", "move 1 01", "move 1 1 ",
            "turn", "turn ", "turn 4", "turn -1", "turn 00", "turn 1 1", "turn x", "turn -0", "turn 10",
            "mirror ", "mirror 1", " mirror", "Mirror", "mirrored",
            "great", "great 0", "great 5", "great -1", "great 1 1", "great 02", "great 2 ",
            "show ", "show 0", "Show", "cells 0", "cells ", "pieces 0", "pieces ", "holes 1", "holes ",
            "in", "in ", "in 3", "in -1", "in 00", "in 0 0", "in x", "in -0",
            "shape", "shape 3", "shape -1", "shape 0 0", "shape 01",
            "like", "like 0", "like 0 3", "like 3 0", "like -1 0", "like 0 1 2", "like 0 00", "like 0 ",
            "thin", "thin -1", "thin 1000001", "thin 01", "thin 1 1", "thin x", "thin " + "9" * 31, "thin ",
            "undo ", "undo 1", "Undo", "redo", "Read", "READ", "reads", "ready rim 0 0 -", " read", "-", "0",
            "rim 0 0 -", "say", "rounds", "say_show", "change",
        ):
            refused(self, desk, row, NoRow)

    def test_straight_under_RimError(self):
        for kind in ALL_CLASSES:
            self.assertEqual(kind.__bases__, (RimError,))

    def test_a_row_end_anywhere(self):
        desk = desk_with(RING)
        for row in ("show\n", "\nshow", "put 9\n9", "put 9 9\n", "\n", "sh\now", "read\n", "read \n",
                    "read rim 0 0 -\nrim 5 5 -", "read rim 0 0 -\n", "read\nrim 0 0 -", "\nread rim 0 0 -", "read x\n",
                    "undo\n", "put 0 0\n"):
            refused(self, desk, row, NoRow)

    def test_thirty_figures_and_more(self):
        desk = Desk()
        more = "1" + "0" * 30
        for word in ("put", "take", "move"):
            for number in (more, "-" + more, "9" * 3900):
                refused(self, desk, f"{word} {number} 0", NoRow)
                refused(self, desk, f"{word} 0 {number}", NoRow)
        self.assertEqual(desk.say(f"put {MOST} {-MOST}"), "gone 0 come 1")
        self.assertEqual(desk.say(f"take {MOST} {-MOST}"), "gone 1 come 0")
        self.assertEqual(desk.say(f"move {-MOST} {MOST}"), "ok")
        for word in ("turn", "great", "thin", "in", "shape"):
            refused(self, desk, f"{word} {more}", NoRow)
            refused(self, desk, f"{word} {'9' * 3900}", NoRow)

    def test_indexes_of_rounds_that_are_there(self):
        desk = Desk()
        for row in ("in 0", "shape 0", "like 0 0"):
            refused(self, desk, row, NoRow)
        desk.say("put 0 0")
        for row in ("in 0", "shape 0", "like 0 0"):
            desk.say(row)
        for row in ("in 1", "shape 1", "like 0 1", "like 1 0"):
            refused(self, desk, row, NoRow)
        desk.say("undo")
        refused(self, desk, "in 0", NoRow)

    def test_the_edges_of_numbers(self):
        desk = desk_with(floor(2, 2))
        for row, answer in (("turn 0", "ok"), ("turn 3", "ok"), ("great 1", "ok"), ("thin 0", "4"),
                            ("thin 1000000", "1"), ("great 4", "ok")):
            self.assertEqual(desk.say(row), answer, row)

    def test_NoRow_goes_ahead_of_all_else(self):
        desk = desk_with(floor(12, 10))
        for row in ("put 0 0 ", "put 0 00", "take 50 50 1", "great 5", "thin 1000001", "read rim\n", "put 50 050"):
            refused(self, desk, row, NoRow)


class Read(unittest.TestCase):
    def test_none_are_kept(self):
        desk = desk_with(RING)
        self.assertEqual(desk.say("read"), "ok")
        self.assertEqual((desk.rounds(), desk.say("show")), ([], "-"))
        self.assertEqual(desk.say("undo"), "ok")
        self.assertEqual(desk.rounds(), rounds(RING))

    def test_what_is_shown_is_read(self):
        for picture in some_pictures(6, 6, 60):
            if picture:
                desk = desk_with(picture)
                self.assertEqual(desk.rounds(), rounds(picture))
                self.assertEqual(desk.say("show"), text_of(picture))
                self.assertEqual(read_rounds(desk.say("show").replace(" / ", "\n")), desk.rounds())

    def test_one_blank_alone(self):
        self.assertEqual(refused_text(self, desk_with(RING), "read "), (0, 0))

    def test_row_ends_found_from_the_left(self):
        good = "rim 0 0 -"
        for text, place in (
            (f"{good} / ", (1, 0)), (f"{good} /", (0, 4)), (f"{good}/ {good}", (0, 3)), (f"{good} /{good}", (0, 4)),
            (f"{good} / / ", (1, 0)), (f"{good} / / {good}", (1, 0)), (f"{good} /  / {good}", (1, 0)),
            (f"{good} / {good} / x", (2, 0)), (f" / {good}", (0, 0)), (f"/ {good}", (0, 0)), (" / ", (0, 0)),
            (" / / ", (0, 0)), ("/", (0, 0)), ("/ ", (0, 0)), (" /", (0, 0)), (" ", (0, 0)),
            (f"{good}  / {good}", (0, 4)), (f"{good} /  {good}", (1, 0)), (f"{good} // {good}", (0, 4)),
            (f"{good} / /", (1, 0)),
        ):
            self.assertEqual(refused_text(self, desk_with(RING), "read " + text), place, text)

    def test_words_counted_from_those_behind_read(self):
        for text, place in (
            ("x", (0, 0)), ("rim", (0, 1)), ("rim 0", (0, 2)), ("rim 0 0", (0, 3)), ("rim 0 0 9", (0, 3)),
            ("rim 0 0 - -", (0, 4)), (" rim 0 0 -", (0, 0)), ("rim  0 0 -", (0, 1)), ("rim 0 0 - ", (0, 4)),
            ("rim 0 0 - / rim -0 0 -", (1, 1)), ("-", (0, 0)), ("rim 0 0 *0x4", (0, 3)), ("read", (0, 0)),
            ("rim 0 " + "9" * 31 + " -", (0, 2)), ("rim 0 0 *0x" + "9" * 3000, (0, 3)),
        ):
            self.assertEqual(refused_text(self, desk_with(RING), "read " + text), place, text)

    def test_then_NoRound_then_NoRounds_then_TooWide(self):
        desk = desk_with(RING)
        great = text_of(floor(40, 40))
        # A wrong word in a later row, a round that is refused, rounds in another order, too many cells.
        self.assertEqual(refused_text(self, desk, f"read rim 0 0 0 / rim 0 0 - / {great} / x"), (3, 0))
        self.assertEqual(refused(self, desk, f"read {great} / {great} / rim 90 0 0", NoRound).at, 1)
        at = slow_refusal(("rim", 9, 9, (0, 4, 4, 6)))
        self.assertEqual(refused(self, desk, "read rim 0 0 0246 / rim 9 9 0446 / rim 0 0 0", NoRound).at, at)
        self.assertEqual(refused(self, desk, f"read {great} / {great}", NoRounds).at, 1)
        self.assertEqual(refused(self, desk, f"read rim 0 90 - / {great}", NoRounds).at, 0)
        refused(self, desk, f"read {great}", TooWide)

    def test_NoRounds(self):
        desk = desk_with(RING)
        for text, at in (("rim 5 0 - / rim 0 0 -", 0), ("hole 1 0 3175", 0), ("rim 0 0 - / rim 0 0 -", 1),
                         ("rim 0 0 - / rim 1 0 -", 0), ("hole 1 0 3175 / rim 0 0 00224466", 0),
                         ("rim 0 0 - / rim 0 5 - / rim 1 5 -", 1)):
            self.assertEqual(refused(self, desk, "read " + text, NoRounds).at, at, text)

    def test_any_place(self):
        desk = Desk()
        self.assertEqual(desk.say(f"read rim {MOST} {-MOST} - / rim {-MOST} {MOST} -"), "ok")
        self.assertEqual(desk.say("cells"), "2")


class Own(unittest.TestCase):
    def test_two_desks_know_nothing_of_each_other(self):
        one, other = Desk(), Desk()
        one.say("put 0 0")
        self.assertEqual((other.rounds(), other.say("undo")), ([], "none"))
        other.say("put 5 5")
        other.say("put 5 6")
        self.assertEqual(one.rounds(), [("rim", 0, 0, ())])
        self.assertEqual([one.say("undo"), one.say("undo")], ["ok", "none"])
        self.assertEqual(other.rounds(), [("rim", 5, 5, (2, 6))])

    def test_the_told_list_changed_changes_nothing(self):
        desk = desk_with(NESTED)
        for row in ("show", "move 0 0", "turn 0", "great 1", "put 9 9", "undo", "undo", "undo", "undo"):
            told = desk.rounds()
            told.clear()
            told.append("more")
            self.assertEqual(desk.rounds(), rounds(NESTED))
            kept = desk.rounds()
            desk.say(row)
            self.assertEqual(kept, rounds(NESTED))
            if row == "put 9 9":
                self.assertEqual(desk.rounds(), rounds(NESTED + [(9, 9)]))
                desk.rounds().pop()
                self.assertEqual(desk.say("undo"), "ok")

    def test_asked_twice_alike(self):
        desk = desk_with(NESTED)
        for row in ("show", "cells", "pieces", "holes", "in 2", "shape 0", "like 0 1", "thin 2"):
            self.assertEqual(desk.say(row), desk.say(row))
        self.assertEqual(desk.rounds(), desk.rounds())
        self.assertIsNot(desk.rounds(), desk.rounds())

    def test_none_told_is_one_s_own_too(self):
        desk = Desk()
        desk.rounds().append("more")
        self.assertEqual(desk.rounds(), [])
        self.assertEqual(Desk().rounds(), [])


if __name__ == "__main__":
    unittest.main()
